/-
  A call over bytes, of layer 9's harness.
-/
/-
  A call over a datagram, of layer 9's harness.
-/
/-
  A call over a segment or options, of layer 9's harness.
-/
/-
  'plays' of layer 9's harness; the walks of L4Udp, L4Tcp, L4Options, L4Plays.
-/
import Derived.Test.YtfoeepbndfnifaaGreatDoorL9M4
import Derived.Deep.CutBlock
namespace Go.Proofs.YtfoeepbndfnifaaGreatDoor
open Go.RowKit
open L4 (U9 T9)
def roE (bs : List Nat) : Nat := match L4.readO bs with
  | some _ => 0
  | none => 97
def roV (bs : List Nat) : List (Int × List Nat) := match L4.readO bs with
  | some ops => ops.map (fun o => I4.intO (I4.ov bs o))
  | none => []
theorem ops_few {ob : List Nat} {ops : List I4.Op4} (h : L4.readO ob = some ops) (h256 : ∀ x ∈ ob, x < 256) : ops.length ≤ 40 := by
  have hr := L4.readO_some h
  have h1 := (I4.scan_in _ 0 ops hr.2.1 (Nat.zero_le _) h256).2
  have h2 := flat_few (ops.map (I4.ov ob))
  have h3 := hr.1
  rw [List.length_map] at h2
  omega
theorem topt_v (a : Option Addr) (cap n : Nat) (bs : List Nat) (w : World) (hlw : LW w) (hd : DOk w bs a n cap) :
    Calls Tryz.prog 80 #[.slice a n cap] w fun e w' => ∃ (ga : Option Addr) (kn gc : Nat) (ls : List OpV), e = .returned (.tuple #[.slice ga kn gc, .int .i64 (roE bs : Nat)]) ∧ Below w.heap.size w w' ∧ OptsAt w' ga ls ∧ ls.length = kn ∧ kn ≤ 40 ∧ vals ls = roV bs := by
  refine (topt_any a cap n bs w hlw hd.dl hd.seg hd.d256 hd.cap hd.top).mono ?_
  rintro e w' ⟨v, er, rfl, hb, hr⟩
  rcases hr with ⟨ops, hro, rfl, hown⟩ | ⟨hro, rfl, rfl⟩
  · obtain ⟨ga, gc, rfl⟩ := owns_shape hown
    have hin := fun q hq => ((I4.scan_in _ 0 ops (L4.readO_some hro).2.1 (Nat.zero_le _) hd.d256).1 q hq).2.2.2
    have hf := ops_few hro hd.d256
    have h40 := (L4.readO_some hro).1
    have hat := opts_of_own hown rfl (hd.seg.old hb) hd.d256 hin (by omega)
    exact ⟨ga, ops.length, gc, ops.map (opV a bs), by unfold roE; rw [hro]; rfl, hb, hat, by rw [List.length_map], hf, by rw [vals_opV]; unfold roV; rw [hro]⟩
  · exact ⟨none, 0, 0, [], by unfold roE; rw [hro]; rfl, hb, .inl rfl, rfl, by omega, by unfold roV; rw [hro]; rfl⟩
theorem ropts_v (a : Option Addr) (n cap : Nat) (bs : List Nat) (w : World) (hd : DOk w bs a n cap) :
    Calls Tryz.prog 81 #[.slice a n cap] w fun e w' => ∃ (ga : Option Addr) (kn gc : Nat) (ls : List OpV), e = .returned (.tuple #[.slice ga kn gc, .int .i64 (roE bs : Nat)]) ∧ Below w.heap.size w w' ∧ OptsAt w' ga ls ∧ ls.length = kn ∧ vals ls = roV bs := by
  refine (ropts_any a n cap bs w hd.dl hd.seg hd.d256 hd.cap).mono ?_
  rintro e w' ⟨hb, hr⟩
  rcases hr with ⟨ops, lb, lc, ps, hro, rfl, hl, hv, hat, _⟩ | ⟨hro, rfl⟩
  · exact ⟨lb, ops.length, lc, ps, by unfold roE; rw [hro]; rfl, hb, hat, hl, by rw [hv]; unfold roV; rw [hro]⟩
  · exact ⟨none, 0, 0, [], by unfold roE; rw [hro]; rfl, hb, .inl rfl, rfl, by unfold roV; rw [hro]; rfl⟩
set_option maxHeartbeats 6400000 in
set_option maxRecDepth 100000 in
theorem bytes_any (o : Cl9) (w : World) (hT : Tabs w) (hk : o.Ok w) :
    Calls Tryz.prog 40 #[.agg o.cells.toArray] w fun e w' => e = .returned (.bool true) ∧ Below w.heap.size w w' := by
  obtain ⟨W, hW⟩ : ∃ W, W = w.alloc (.cells o.cells.toArray 84) := ⟨_, rfl⟩
  obtain ⟨O, hO⟩ : ∃ O, O = w.heap.size := ⟨_, rfl⟩
  have bel : Below w.heap.size w W := by rw [hW]; exact (Below.refl _ _).alloc (Nat.le_refl _) _
  have hr : OpAt W O o := by rw [hW, hO]; exact opAt_new _ _
  obtain ⟨M, hM⟩ : ∃ M, M = o.cells.toArray := ⟨_, rfl⟩
  have HW : Hid (w.alloc (.cells M 84) = W ∧ w.heap.size = O) := ⟨by rw [hM]; exact hW.symm, hO.symm⟩
  have KO : Hid (∀ A, Below W.heap.size W A → OpAt A O o) := fun A hA => hr.below hA
  have HK : Hid (o.Ok w) := hk
  have HT : Hid (Tabs w) := hT
  have HBW : Hid (Below w.heap.size w W) := bel
  obtain ⟨n, hn⟩ : ∃ n, n = o.bn := ⟨_, rfl⟩
  have HN : Hid (n = o.bn) := hn
  have QW : Hid _ := wide_any o.ba o.bn o.bc o.bs W hk.b.dl (hk.b.old bel).seg hk.bm
  have cb := (KO.out W (Below.refl _ _)).cb
  rw [← hn] at QW cb
  rw [← hM]
  clear hW hO hr hM hk hT bel hn
  go_enter Tryz.func40, Tryz.ntmps40
  go_upto_region 1 with fail
  rw [HW.out.1, HW.out.2]
  clear HW
  go_wp2_with fail
  refine Calls.mono QW.out ?_
  rintro e w1 ⟨g, cw, rfl, hw1, hb1⟩
  have HB1 : Hid (Below w.heap.size w w1) := bthen HBW.out hb1
  have hbl : n ≤ 1048576 := by rw [HN.out]; exact HK.out.bm
  have hdw : DOk w1 (o.bs ++ [91, 92, 93]) (some ⟨g, 0, none⟩) (n + 3) cw := own_dok hw1 (by
    intro z hz
    rcases List.mem_append.1 hz with h | h
    · exact HK.out.b.d256 z h
    · simp at h; omega) (by omega)
  have hpre : DOk w1 o.bs (some ⟨g, 0, none⟩) n cw := by
    have h := hdw.pre n (by omega)
    rw [List.take_append_of_le_length (by rw [HK.out.b.dl, HN.out]; exact Nat.le_refl _), List.take_of_length_le (by rw [HK.out.b.dl, HN.out]; exact Nat.le_refl _)] at h
    exact h
  have n1 : (n : Int) ≤ (cw : Int) := by have := hpre.cap; omega
  have hn3 : n + 3 ≤ cw := hdw.cap
  have K1 : Hid (∀ A, Below w1.heap.size w1 A → Below w.heap.size w A ∧ OpAt A O o ∧ DOk A o.bs o.ba n o.bc ∧ Tabs A ∧ DOk A o.bs (some ⟨g, 0, none⟩) n cw ∧ Seg .u8 A (some ⟨g, 0, none⟩) (toI (o.bs ++ [91, 92, 93]))) := fun A hA => by
    have hb := bthen HB1.out hA
    refine ⟨hb, KO.out A (bthen hb1 hA), ?_, HT.out.old hb, hpre.old hA, hdw.seg.old hA⟩
    rw [HN.out]
    exact HK.out.b.old hb
  have HN3 : Hid (n + 3 ≤ cw ∧ n ≤ 1048576) := ⟨hn3, hbl⟩
  have cb1 := (K1.out w1 (Below.refl _ _)).2.1.cb
  rw [← HN.out] at cb1
  have c0 := (K1.out w1 (Below.refl _ _)).2.1.c0
  have n0 : (0 : Int) ≤ (n : Int) := by omega
  have n2 : ((n : Int)).toNat = n := by omega
  clear QW cb hw1 hb1 hdw hpre KO HBW hn3 hbl
  go_upto_block 0 with fail
  go_cut [5] (fun s wx => s = .bool true ∧ Hid (Below w1.heap.size w1 wx))
  case rest =>
    obtain ⟨rfl, HBc⟩ := hcut
    have QK : Hid _ := kept_any g 0 o.ba n cw o.bc o.bs wc (by rw [HN.out]; exact HK.out.b.dl) (K1.out wc HBc.out).2.2.2.2.2 (K1.out wc HBc.out).2.2.1.seg HK.out.b.d256 HN3.out.1 HN3.out.2
    have cbc := (K1.out wc HBc.out).2.1.cb
    rw [← HN.out] at cbc
    clear cb1 c0
    go_wp2_with fail
    refine Calls.mono QK.out ?_
    rintro e wz ⟨rfl, rfl⟩
    go_wp2
    go_ret
    exact ⟨rfl, (K1.out _ HBc.out).1⟩
  case first =>
    by_cases h1 : o.kind = 1
    · have q1 : (o.kind == 1) = true := by rw [h1]; rfl
      have QU : Hid _ := parseU_u o.V o.U o.x o.y (some ⟨g, 0, none⟩) n cw o.bs w1 (K1.out w1 (Below.refl _ _)).2.2.2.1.u (K1.out w1 (Below.refl _ _)).2.2.2.2.1 HK.out.x256 HK.out.y256
      have HSD : Hid (w1.rangeAt O 1 (ipCells o.V o.x).toList ∧ w1.rangeAt O 18 (ipCells o.U o.y).toList) := ⟨(K1.out w1 (Below.refl _ _)).2.1.src, (K1.out w1 (Below.refl _ _)).2.1.dst⟩
      go_upto_region 6 with fail
      clear q1 h1
      go_wp2_with (first | (refine wpList_load_ipm (.tmp 31) rfl O 1 o.V o.x rfl HSD.out.1 rfl ?_) | (refine wpList_load_ipm (.tmp 33) rfl O 18 o.U o.y rfl HSD.out.2 rfl ?_))
      refine Calls.mono QU.out ?_
      rintro e w2 ⟨er, u, da, m, rfl, hb2, her, hdk, hu0, hu1⟩
      have HU : Hid ((er = 0 → u = L4.uP o.bs) ∧ (er ≠ 0 → u = u9z) ∧ er = L4.uPE o.V (psOk o.V o.U o.x o.y) (psL o.V o.U o.x o.y 17 (L4.uN o.bs : Nat)) o.bs) := ⟨fun h => (hu0 h).1, fun h => (hu1 h).1, her⟩
      have b3 : Below w2.heap.size w2 (w2.alloc (.cells (uC u9z none 0 0) 30)) := (Below.refl _ _).alloc (Nat.le_refl _) _
      obtain ⟨w3, hw3⟩ : ∃ w3, w3 = w2.alloc (.cells (uC u9z none 0 0) 30) := ⟨_, rfl⟩
      obtain ⟨O6, hO6⟩ : ∃ O6, O6 = w2.heap.size := ⟨_, rfl⟩
      have HNB : Hid (UAt w3 O6 u9z none 0 0) := by rw [hw3, hO6]; exact uAt_new _ _ _ _ _
      rw [← hw3] at b3
      have HW3 : Hid (w2.alloc (.cells #[.int .i64 0, .int .i64 0, .bool false, .slice none 0 0] 30) = w3 ∧ w2.heap.size = O6) := ⟨hw3.symm, hO6.symm⟩
      have HB2 : Hid (Below w1.heap.size w1 w2 ∧ Below w2.heap.size w2 w3 ∧ DOk w2 u.d da m m) := ⟨hb2, b3, hdk⟩
      clear QU hb2 her hdk hu0 hu1 b3 hw3 hO6 HSD
      go_wp2_with (refine wpList_store_u9 (.tmp 6) (.tmp 37) rfl rfl O6 u9z none 0 0 u da m m (by rw [← HW3.out.2]; rfl) rfl (by have h := HNB.out; rw [← HW3.out.1] at h; exact h) rfl ?_)
      rw [HW3.out.1, HW3.out.2]
      intro w4 hR4 k4
      have HR4 : Hid (UAt w4 O6 u da m m) := hR4
      have hb24 : Below w2.heap.size w2 w4 := HB2.out.2.1.trans (k4.below (fun q s => by have e : q = O6 := s; have := HW3.out.2; omega) HB2.out.2.1.size)
      have HB4 : Hid (Below w1.heap.size w1 w4) := bthen HB2.out.1 hb24
      have HD4 : Hid (DOk w4 u.d da m m) := HB2.out.2.2.old hb24
      clear hR4 k4 hb24 HNB HW3 HB2
      have QR : Hid _ := rparseU_any o.V o.U o.x o.y o.ba n o.bc o.bs w4 (K1.out w4 HB4.out).2.2.1 HK.out.x256 HK.out.y256
      have HSD : Hid (w4.rangeAt O 1 (ipCells o.V o.x).toList ∧ w4.rangeAt O 18 (ipCells o.U o.y).toList) := ⟨(K1.out w4 HB4.out).2.1.src, (K1.out w4 HB4.out).2.1.dst⟩
      have cb4 := (K1.out w4 HB4.out).2.1.cb
      rw [← HN.out] at cb4
      go_upto_region 7 with fail
      clear cb1 c0
      go_wp2_with (first | (refine wpList_load_ipm (.tmp 40) rfl O 1 o.V o.x rfl HSD.out.1 rfl ?_) | (refine wpList_load_ipm (.tmp 42) rfl O 18 o.U o.y rfl HSD.out.2 rfl ?_))
      refine Calls.mono QR.out ?_
      rintro e w5 ⟨er2, v, db, m2, mc2, rfl, hb5, her2, hdk5, hv0, hv1⟩
      have ee : er2 = er := by rw [her2, HU.out.2.2]
      cases ee
      have ev : v = u := by
        by_cases h : er = 0
        · rw [hv0 h, HU.out.1 h]
        · rw [(hv1 h).1, HU.out.2.1 h]
      cases ev
      have em : m2 = m := by rw [← hdk5.dl, ← HD4.out.dl]
      cases em
      have b6 : Below w5.heap.size w5 (w5.alloc (.cells (uC u9z none 0 0) 30)) := (Below.refl _ _).alloc (Nat.le_refl _) _
      obtain ⟨w6, hw6⟩ : ∃ w6, w6 = w5.alloc (.cells (uC u9z none 0 0) 30) := ⟨_, rfl⟩
      obtain ⟨O8, hO8⟩ : ∃ O8, O8 = w5.heap.size := ⟨_, rfl⟩
      have HNB : Hid (UAt w6 O8 u9z none 0 0) := by rw [hw6, hO8]; exact uAt_new _ _ _ _ _
      rw [← hw6] at b6
      have HW6 : Hid (w5.alloc (.cells #[.int .i64 0, .int .i64 0, .bool false, .slice none 0 0] 30) = w6 ∧ w5.heap.size = O8) := ⟨hw6.symm, hO8.symm⟩
      have HB5 : Hid (Below w4.heap.size w4 w5 ∧ Below w5.heap.size w5 w6 ∧ DOk w5 u.d db m mc2) := ⟨hb5, b6, hdk5⟩
      clear QR hb5 her2 hdk5 hv0 hv1 b6 hw6 hO8 HSD cb4
      go_wp2_with (refine wpList_store_u9 (.tmp 8) (.tmp 47) rfl rfl O8 u9z none 0 0 u db m mc2 (by rw [← HW6.out.2]; rfl) rfl (by have h := HNB.out; rw [← HW6.out.1] at h; exact h) rfl ?_)
      rw [HW6.out.1, HW6.out.2]
      intro w7 hR7 k7
      have hb57 : Below w5.heap.size w5 w7 := HB5.out.2.1.trans (k7.below (fun q s => by have e : q = O8 := s; have := HW6.out.2; omega) HB5.out.2.1.size)
      have hb47 := bthen HB5.out.1 hb57
      have HR7 : Hid (UAt w7 O6 u da m m ∧ UAt w7 O8 u db m mc2) := ⟨UAt.below HR4.out hb47, hR7⟩
      have HB7 : Hid (Below w1.heap.size w1 w7) := bthen HB4.out hb47
      have HD7 : Hid (DOk w7 u.d da m m ∧ DOk w7 u.d db m mc2) := ⟨HD4.out.old hb47, HB5.out.2.2.old hb57⟩
      have QM : Hid _ := num9_any (er : Int) w7
      have QS : Hid _ := sameU_true u da db m m mc2 w7 HD7.out.1 HD7.out.2
      clear hR7 k7 hb57 hb47 HNB HW6 HB5 HR4 HD4
      go_upto_region 8 with fail
      go_wp2_with fail
      refine Calls.mono QM.out ?_
      rintro e wz ⟨rfl, rfl⟩
      have qq : ((er : Int) == (er : Int)) = true := by simp
      go_wp2_with (first | (refine wpList_load_u9 (.tmp 6) rfl O6 u da m m rfl HR7.out.1 rfl ?_) | (refine wpList_load_u9 (.tmp 8) rfl O8 u db m mc2 rfl HR7.out.2 rfl ?_))
      refine Calls.mono QS.out ?_
      rintro e w8 ⟨rfl, hb8⟩
      have HB8 : Hid (Below w1.heap.size w1 w8) := bthen HB7.out hb8
      clear hb8 QS QM
      go_wp2
      go_meet
      exact ⟨rfl, HB8⟩
    have q1 : (o.kind == 1) = false := by simpa using h1
    by_cases h4 : o.kind = 4
    · have q4 : (o.kind == 4) = true := by rw [h4]; rfl
      have QU : Hid _ := parseT_u o.V o.U o.x o.y (some ⟨g, 0, none⟩) n cw o.bs w1 (K1.out w1 (Below.refl _ _)).2.2.2.1.t (K1.out w1 (Below.refl _ _)).2.2.2.1.l (K1.out w1 (Below.refl _ _)).2.2.2.2.1 HK.out.x256 HK.out.y256
      have HSD : Hid (w1.rangeAt O 1 (ipCells o.V o.x).toList ∧ w1.rangeAt O 18 (ipCells o.U o.y).toList) := ⟨(K1.out w1 (Below.refl _ _)).2.1.src, (K1.out w1 (Below.refl _ _)).2.1.dst⟩
      go_upto_region 10 with fail
      clear q1 q4 h1 h4
      go_wp2_with (first | (refine wpList_load_ipm (.tmp 61) rfl O 1 o.V o.x rfl HSD.out.1 rfl ?_) | (refine wpList_load_ipm (.tmp 63) rfl O 18 o.U o.y rfl HSD.out.2 rfl ?_))
      refine Calls.mono QU.out ?_
      rintro e w2 ⟨er, u, la, ln, lc, os, da, m, rfl, hb2, her, hdk, hu0, hu1, _⟩
      have HU : Hid ((er = 0 → u = L4.tP o.bs) ∧ (er ≠ 0 → u = t9z) ∧ er = L4.tPE (psOk o.V o.U o.x o.y) (psL o.V o.U o.x o.y 6 (n : Nat)) o.bs) := ⟨fun h => (hu0 h).1, fun h => (hu1 h).1, her⟩
      have b3 : Below w2.heap.size w2 (w2.alloc (.cells (tC t9z none 0 0 none 0 0) 33)) := (Below.refl _ _).alloc (Nat.le_refl _) _
      obtain ⟨w3, hw3⟩ : ∃ w3, w3 = w2.alloc (.cells (tC t9z none 0 0 none 0 0) 33) := ⟨_, rfl⟩
      obtain ⟨O6, hO6⟩ : ∃ O6, O6 = w2.heap.size := ⟨_, rfl⟩
      have HNB : Hid (TAt w3 O6 t9z none 0 0 none 0 0) := by rw [hw3, hO6]; exact tAt_new _ _ _ _ _ _ _ _
      rw [← hw3] at b3
      have HW3 : Hid (w2.alloc (.cells #[.int .i64 0, .int .i64 0, .int .i64 0, .int .i64 0, .int .i64 0, .int .i64 0, .int .i64 0, .slice none 0 0, .slice none 0 0] 33) = w3 ∧ w2.heap.size = O6) := ⟨hw3.symm, hO6.symm⟩
      have HB2 : Hid (Below w1.heap.size w1 w2 ∧ Below w2.heap.size w2 w3 ∧ TOk w2 u la ln os da m m) := ⟨hb2, b3, hdk⟩
      clear QU hb2 her hdk hu0 hu1 b3 hw3 hO6 HSD
      go_wp2_with (refine wpList_store_t9 (.tmp 10) (.tmp 67) rfl rfl O6 t9z none 0 0 none 0 0 u la ln lc da m m (by rw [← HW3.out.2]; rfl) rfl (by have h := HNB.out; rw [← HW3.out.1] at h; exact h) rfl ?_)
      rw [HW3.out.1, HW3.out.2]
      intro w4 hR4 k4
      have HR4 : Hid (TAt w4 O6 u la ln lc da m m) := hR4
      have hb24 : Below w2.heap.size w2 w4 := HB2.out.2.1.trans (k4.below (fun q s => by have e : q = O6 := s; have := HW3.out.2; omega) HB2.out.2.1.size)
      have HB4 : Hid (Below w1.heap.size w1 w4) := bthen HB2.out.1 hb24
      have HD4 : Hid (TOk w4 u la ln os da m m) := HB2.out.2.2.old hb24
      clear hR4 k4 hb24 HNB HW3 HB2
      have QR : Hid _ := rparseT_any o.V o.U o.x o.y o.ba n o.bc o.bs w4 (K1.out w4 HB4.out).2.2.1 HK.out.x256 HK.out.y256
      have HSD : Hid (w4.rangeAt O 1 (ipCells o.V o.x).toList ∧ w4.rangeAt O 18 (ipCells o.U o.y).toList) := ⟨(K1.out w4 HB4.out).2.1.src, (K1.out w4 HB4.out).2.1.dst⟩
      have cb4 := (K1.out w4 HB4.out).2.1.cb
      rw [← HN.out] at cb4
      go_upto_region 11 with fail
      clear cb1 c0
      go_wp2_with (first | (refine wpList_load_ipm (.tmp 70) rfl O 1 o.V o.x rfl HSD.out.1 rfl ?_) | (refine wpList_load_ipm (.tmp 72) rfl O 18 o.U o.y rfl HSD.out.2 rfl ?_))
      refine Calls.mono QR.out ?_
      rintro e w5 ⟨er2, v, lb, ln2, lc2, os2, db, m2, mc2, rfl, hb5, her2, hdk5, hv0, hv1⟩
      have ee : er2 = er := by rw [her2, HU.out.2.2]
      cases ee
      have ev : v = u := by
        by_cases h : er = 0
        · rw [hv0 h, HU.out.1 h]
        · rw [(hv1 h).1, HU.out.2.1 h]
      cases ev
      have em : m2 = m := by rw [← hdk5.d.dl, ← HD4.out.d.dl]
      cases em
      have el : ln2 = ln := by
        have h1 := congrArg List.length (hdk5.ov.trans HD4.out.ov.symm)
        simp only [vals, List.length_map] at h1
        rw [← hdk5.ol, ← HD4.out.ol, h1]
      cases el
      have b6 : Below w5.heap.size w5 (w5.alloc (.cells (tC t9z none 0 0 none 0 0) 33)) := (Below.refl _ _).alloc (Nat.le_refl _) _
      obtain ⟨w6, hw6⟩ : ∃ w6, w6 = w5.alloc (.cells (tC t9z none 0 0 none 0 0) 33) := ⟨_, rfl⟩
      obtain ⟨O8, hO8⟩ : ∃ O8, O8 = w5.heap.size := ⟨_, rfl⟩
      have HNB : Hid (TAt w6 O8 t9z none 0 0 none 0 0) := by rw [hw6, hO8]; exact tAt_new _ _ _ _ _ _ _ _
      rw [← hw6] at b6
      have HW6 : Hid (w5.alloc (.cells #[.int .i64 0, .int .i64 0, .int .i64 0, .int .i64 0, .int .i64 0, .int .i64 0, .int .i64 0, .slice none 0 0, .slice none 0 0] 33) = w6 ∧ w5.heap.size = O8) := ⟨hw6.symm, hO8.symm⟩
      have HB5 : Hid (Below w4.heap.size w4 w5 ∧ Below w5.heap.size w5 w6 ∧ TOk w5 u lb ln os2 db m mc2) := ⟨hb5, b6, hdk5⟩
      clear QR hb5 her2 hdk5 hv0 hv1 b6 hw6 hO8 HSD cb4
      go_wp2_with (refine wpList_store_t9 (.tmp 12) (.tmp 77) rfl rfl O8 t9z none 0 0 none 0 0 u lb ln lc2 db m mc2 (by rw [← HW6.out.2]; rfl) rfl (by have h := HNB.out; rw [← HW6.out.1] at h; exact h) rfl ?_)
      rw [HW6.out.1, HW6.out.2]
      intro w7 hR7 k7
      have hb57 : Below w5.heap.size w5 w7 := HB5.out.2.1.trans (k7.below (fun q s => by have e : q = O8 := s; have := HW6.out.2; omega) HB5.out.2.1.size)
      have hb47 := bthen HB5.out.1 hb57
      have HR7 : Hid (TAt w7 O6 u la ln lc da m m ∧ TAt w7 O8 u lb ln lc2 db m mc2) := ⟨TAt.below HR4.out hb47, hR7⟩
      have HB7 : Hid (Below w1.heap.size w1 w7) := bthen HB4.out hb47
      have HD7 : Hid (TOk w7 u la ln os da m m ∧ TOk w7 u lb ln os2 db m mc2) := ⟨HD4.out.old hb47, HB5.out.2.2.old hb57⟩
      have QM : Hid _ := num9_any (er : Int) w7
      have QS : Hid _ := sameT_true u la lb ln lc lc2 os os2 da db m m mc2 w7 HD7.out.1.oat HD7.out.2.oat HD7.out.1.ol (HD7.out.1.ov.trans HD7.out.2.ov.symm) HD7.out.1.on HD7.out.1.d HD7.out.2.d
      clear hR7 k7 hb57 hb47 HNB HW6 HB5 HR4 HD4
      go_upto_region 12 with fail
      go_wp2_with fail
      refine Calls.mono QM.out ?_
      rintro e wz ⟨rfl, rfl⟩
      have qq : ((er : Int) == (er : Int)) = true := by simp
      go_wp2_with (first | (refine wpList_load_t9 (.tmp 10) rfl O6 u la ln lc da m m rfl HR7.out.1 rfl ?_) | (refine wpList_load_t9 (.tmp 12) rfl O8 u lb ln lc2 db m mc2 rfl HR7.out.2 rfl ?_))
      refine Calls.mono QS.out ?_
      rintro e w8 ⟨rfl, hb8⟩
      have HB8 : Hid (Below w1.heap.size w1 w8) := bthen HB7.out hb8
      clear hb8 QS QM
      go_wp2
      go_meet
      exact ⟨rfl, HB8⟩
    have q4 : (o.kind == 4) = false := by simpa using h4
    by_cases h7 : o.kind = 7
    · have q7 : (o.kind == 7) = true := by rw [h7]; rfl
      have QU : Hid _ := topt_v (some ⟨g, 0, none⟩) cw n o.bs w1 (K1.out w1 (Below.refl _ _)).2.2.2.1.l (K1.out w1 (Below.refl _ _)).2.2.2.2.1
      go_upto_region 14 with fail
      clear q1 q4 q7 h1 h4 h7
      go_wp2_with fail
      refine Calls.mono QU.out ?_
      rintro e w2 ⟨ga, kn, gc, ls, rfl, hb2, hat, hll, hkn, hvs⟩
      have HA : Hid (OptsAt w2 ga ls ∧ ls.length = kn ∧ kn ≤ 40 ∧ vals ls = roV o.bs ∧ Below w1.heap.size w1 w2) := ⟨hat, hll, hkn, hvs, hb2⟩
      have cb2 := (K1.out w2 hb2).2.1.cb
      rw [← HN.out] at cb2
      have QR : Hid _ := ropts_v o.ba n o.bc o.bs w2 (K1.out w2 hb2).2.2.1
      obtain ⟨er, her⟩ : ∃ er, er = roE o.bs := ⟨_, rfl⟩
      rw [← her] at QR ⊢
      clear QU hat hll hkn hvs hb2 cb1 c0 her
      go_wp2_with fail
      refine Calls.mono QR.out ?_
      rintro e w3 ⟨gb, kn2, gc2, ls2, rfl, hb3, hat2, hll2, hvs2⟩
      have ek : kn2 = kn := by
        have h := congrArg List.length (hvs2.trans HA.out.2.2.2.1.symm)
        simp only [vals, List.length_map] at h
        rw [← hll2, ← HA.out.2.1, h]
      cases ek
      have QM : Hid _ := num9_any (er : Int) w3
      have QS : Hid _ := sameOpts_true ga gb kn gc gc2 ls ls2 w3 (HA.out.1.old hb3) hat2 HA.out.2.1 (HA.out.2.2.2.1.trans hvs2.symm) (by have := HA.out.2.2.1; omega)
      have HB3 : Hid (Below w1.heap.size w1 w3) := bthen HA.out.2.2.2.2 hb3
      clear QR hb3 hat2 hll2 hvs2 cb2
      go_wp2_with fail
      refine Calls.mono QM.out ?_
      rintro e wz ⟨rfl, rfl⟩
      have qq : ((er : Int) == (er : Int)) = true := by simp
      go_wp2_with fail
      refine Calls.mono QS.out ?_
      rintro e w8 ⟨rfl, hb8⟩
      have HB8 : Hid (Below w1.heap.size w1 w8) := bthen HB3.out hb8
      clear hb8 QS QM
      go_wp2
      go_meet
      exact ⟨rfl, HB8⟩
    have q7 : (o.kind == 7) = false := by simpa using h7
    clear h1 h4 h7
    go_wp2
    go_meet
    exact ⟨rfl, Below.refl _ _⟩
end Go.Proofs.YtfoeepbndfnifaaGreatDoor
namespace Go.Proofs.YtfoeepbndfnifaaGreatDoor
open Go.RowKit
open L4 (U9 T9)
theorem putU_w (V U : Int) (x y : Nat → Nat) (u : U9) (da : Option Addr) (n c : Nat) (w : World) (hw : UW w) (k : DOk w u.d da n c) (hx : ∀ i, i < 16 → x i < 256) (hy : ∀ i, i < 16 → y i < 256) :
    Calls Tryz.prog 14 #[.agg (ipCells V x), .agg (ipCells U y), .agg (uC u da n c)] w fun e w' => ∃ va, e = .returned (.tuple #[.slice va (wU9 V U x y u n).length (wU9 V U x y u n).length, .int .i64 ((L4.uPutE (psOk V U x y) V u : Nat) : Int)]) ∧ Below w.heap.size w w' ∧ w'.ownsRow w.heap.size 5 1 (.slice va (wU9 V U x y u n).length (wU9 V U x y u n).length) (wU9 V U x y u n).length ((toI (wU9 V U x y u n)).map (Value.int .u8)) := by
  refine (putU_any V U x y u da n c w hw k hx hy).mono ?_
  rintro e w' ⟨v, er, rfl, her, hb, hr⟩
  rcases hr with ⟨h0, g, rfl, ho⟩ | ⟨h0, rfl⟩
  · have e1 : wU9 V U x y u n = L4.uSer u (psL V U x y 17 ((8 + n : Nat) : Int)) := by unfold wU9; rw [if_pos (by rw [← her]; exact h0)]
    have e2 : (wU9 V U x y u n).length = 8 + n := by rw [e1, L4.uSer_len, k.dl]
    exact ⟨some ⟨g, 0, none⟩, by rw [e2, her], hb, by rw [e2, e1]; exact ho⟩
  · have e1 : wU9 V U x y u n = [] := by unfold wU9; rw [if_neg (by rw [← her]; exact h0)]
    rw [e1]
    exact ⟨none, by rw [her]; rfl, hb, World.ownsRow_nil _ _ _ _⟩
set_option maxHeartbeats 6400000 in
set_option maxRecDepth 100000 in
theorem udps_any (o : Cl9) (w : World) (hT : Tabs w) (hk : o.Ok w) :
    Calls Tryz.prog 41 #[.agg o.cells.toArray] w fun e w' => e = .returned (.bool true) ∧ Below w.heap.size w w' := by
  obtain ⟨W, hW⟩ : ∃ W, W = w.alloc (.cells o.cells.toArray 84) := ⟨_, rfl⟩
  obtain ⟨O, hO⟩ : ∃ O, O = w.heap.size := ⟨_, rfl⟩
  have bel : Below w.heap.size w W := by rw [hW]; exact (Below.refl _ _).alloc (Nat.le_refl _) _
  have hr : OpAt W O o := by rw [hW, hO]; exact opAt_new _ _
  obtain ⟨M, hM⟩ : ∃ M, M = o.cells.toArray := ⟨_, rfl⟩
  have HW : Hid (w.alloc (.cells M 84) = W ∧ w.heap.size = O) := ⟨by rw [hM]; exact hW.symm, hO.symm⟩
  have KO : Hid (∀ A, Below W.heap.size W A → OpAt A O o) := fun A hA => hr.below hA
  have HK : Hid (o.Ok w) := hk
  have HT : Hid (Tabs w) := hT
  have HBW : Hid (Below w.heap.size w W) := bel
  obtain ⟨n, hn⟩ : ∃ n, n = o.un := ⟨_, rfl⟩
  have HN : Hid (n = o.un) := hn
  have HUR : Hid (W.rangeAt O 36 (uC o.u o.ua n o.uc).toList) := by
    have h := (KO.out W (Below.refl _ _)).ur
    rw [← hn] at h
    exact h
  have bA : Below W.heap.size W (W.alloc (.cells (uC u9z none 0 0) 30)) := (Below.refl _ _).alloc (Nat.le_refl _) _
  obtain ⟨WA, hWA⟩ : ∃ WA, WA = W.alloc (.cells (uC u9z none 0 0) 30) := ⟨_, rfl⟩
  obtain ⟨P, hP⟩ : ∃ P, P = W.heap.size := ⟨_, rfl⟩
  have HNB : Hid (UAt WA P u9z none 0 0) := by rw [hWA, hP]; exact uAt_new _ _ _ _ _
  rw [← hWA] at bA
  have HWA : Hid (W.alloc (.cells #[.int .i64 0, .int .i64 0, .bool false, .slice none 0 0] 30) = WA ∧ W.heap.size = P) := ⟨hWA.symm, hP.symm⟩
  have HBA : Hid (Below W.heap.size W WA ∧ O < P) := ⟨bA, by rw [hP]; exact hr.lt⟩
  have HBP : Hid (W.heap.size ≤ P) := by rw [hP]; exact Nat.le_refl _
  rw [← hM]
  clear hW hO hr hM hk hT bel hn bA hWA hP
  go_enter Tryz.func41, Tryz.ntmps41
  go_upto_region 1 with fail
  rw [HW.out.1, HW.out.2]
  clear HW
  go_wp2_with (first | (refine wpList_load_um (.tmp 11) rfl O 36 o.u o.ua n o.uc rfl HUR.out rfl ?_) | (refine wpList_store_u9 (.tmp 3) (.tmp 12) rfl rfl P u9z none 0 0 o.u o.ua n o.uc (by rw [← HWA.out.2]; rfl) rfl (by have h := HNB.out; rw [← HWA.out.1] at h; exact h) rfl ?_))
  rw [HWA.out.1, HWA.out.2]
  intro w1 hR1 k1
  have hbW1 : Below W.heap.size W w1 := HBA.out.1.trans (k1.below (fun q s => by have e : q = P := s; have := HWA.out.2; omega) HBA.out.1.size)
  have HB1 : Hid (Below W.heap.size W w1 ∧ Below w.heap.size w w1) := ⟨hbW1, bthen HBW.out hbW1⟩
  have HR1 : Hid (UAt w1 P o.u o.ua n o.uc) := hR1
  have hbl : n ≤ 1048576 := by rw [HN.out]; exact HK.out.um
  have hud : ∀ A, Below w.heap.size w A → DOk A o.u.d o.ua n o.uc := fun A hA => by rw [HN.out]; exact HK.out.ud.old hA
  have HUD : Hid _ := hud
  have QW : Hid _ := wide_any o.ua n o.uc o.u.d w1 (by rw [HN.out]; exact HK.out.ud.dl) (hud w1 HB1.out.2).seg hbl
  have c3 := HR1.out.c3
  clear hR1 k1 hbW1 HUR HNB HWA hud
  go_wp2_with fail
  refine Calls.mono QW.out ?_
  rintro e w2 ⟨g, cw, rfl, hw2, hb2⟩
  have hdw : DOk w2 (o.u.d ++ [91, 92, 93]) (some ⟨g, 0, none⟩) (n + 3) cw := own_dok hw2 (by
    intro z hz
    rcases List.mem_append.1 hz with h | h
    · exact HK.out.ud.d256 z h
    · simp at h; omega) (by omega)
  have hpre : DOk w2 o.u.d (some ⟨g, 0, none⟩) n cw := by
    have h := hdw.pre n (by omega)
    rw [List.take_append_of_le_length (by rw [HK.out.ud.dl, HN.out]; exact Nat.le_refl _), List.take_of_length_le (by rw [HK.out.ud.dl, HN.out]; exact Nat.le_refl _)] at h
    exact h
  have n1 : (n : Int) ≤ (cw : Int) := by have := hpre.cap; omega
  have hn3 : n + 3 ≤ cw := hdw.cap
  have n0 : (0 : Int) ≤ (n : Int) := by omega
  have n2 : ((n : Int)).toNat = n := by omega
  have HR2 : Hid (UAt w2 P o.u o.ua n o.uc) := HR1.out.below hb2
  obtain ⟨hs3, k3⟩ := uAt_set3 HR2.out (some ⟨g, 0, none⟩) n cw
  have p3 := HR2.out.c3
  have pf := HR2.out.fz 3
  have cu := (KO.out w2 (bthen HB1.out.1 hb2)).cu
  rw [← HN.out] at cu
  have hgl := (hw2.lt g rfl)
  have hP1 : P < w1.heap.size := HR1.out.lt
  have hb3 : Below W.heap.size W (w2.setCell ⟨P, 3, none⟩ (.slice (some ⟨g, 0, none⟩) n cw)) := (bthen HB1.out.1 hb2).trans (k3.below (fun q s => by have e : q = P := s; have := HBP.out; omega) (bthen HB1.out.1 hb2).size)
  obtain ⟨w3, hw3⟩ : ∃ w3, w3 = w2.setCell ⟨P, 3, none⟩ (.slice (some ⟨g, 0, none⟩) n cw) := ⟨_, rfl⟩
  rw [← hw3] at hs3 k3 hb3
  have K3 : Hid (∀ A, Below w3.heap.size w3 A → Below w.heap.size w A ∧ OpAt A O o ∧ DOk A o.u.d o.ua n o.uc ∧ Tabs A ∧ DOk A o.u.d (some ⟨g, 0, none⟩) n cw ∧ Seg .u8 A (some ⟨g, 0, none⟩) (toI (o.u.d ++ [91, 92, 93])) ∧ UAt A P o.u (some ⟨g, 0, none⟩) n cw) := fun A hA => by
    have hWA := bthen hb3 hA
    have hb := bthen HBW.out hWA
    have hg3 : ∀ z : Addr, some (⟨g, 0, none⟩ : Addr) = some z → ¬ (fun q => q = P) z.block := fun z hz s => by
      have e : z.block = P := s
      have e2 := Option.some.inj hz
      rw [← e2] at e
      have e3 : g = P := e
      omega
    exact ⟨hb, KO.out A hWA, HUD.out A hb, HT.out.old hb, (hpre.ch k3 hg3).old hA, ((hdw.ch k3 hg3).old hA).seg, UAt.below hs3 hA⟩
  have HN3 : Hid (n + 3 ≤ cw ∧ n ≤ 1048576) := ⟨hn3, hbl⟩
  have HW3 : Hid (w2.setCell ⟨P, 3, none⟩ (.slice (some ⟨g, 0, none⟩) n cw) = w3) := hw3.symm
  clear QW hw2 hb2 hdw hpre KO HBW hn3 hbl hs3 k3 hb3 hw3 hgl hP1 HR1 HR2 c3 HB1 HBA HUD HBP
  go_upto_region 4 with fail
  rw [HW3.out]
  clear HW3 p3 pf cu
  have c0 := (K3.out w3 (Below.refl _ _)).2.1.c0
  go_upto_if 25 with fail
  go_cut [5] (fun s wx => s = .bool true ∧ Hid (Below w3.heap.size w3 wx))
  case rest =>
    obtain ⟨rfl, HBc⟩ := hcut
    have HF : Hid _ := K3.out wc HBc.out
    have QS : Hid _ := sameU_true o.u (some ⟨g, 0, none⟩) o.ua n cw o.uc wc HF.out.2.2.2.2.1 HF.out.2.2.1
    have HUR : Hid (wc.rangeAt O 36 (uC o.u o.ua n o.uc).toList) := by
      have h := HF.out.2.1.ur
      rw [← HN.out] at h
      exact h
    clear c0
    go_wp2_with (first | (refine wpList_load_u9 (.tmp 3) rfl P o.u (some ⟨g, 0, none⟩) n cw rfl HF.out.2.2.2.2.2.2 rfl ?_) | (refine wpList_load_um (.tmp 69) rfl O 36 o.u o.ua n o.uc rfl HUR.out rfl ?_))
    refine Calls.mono QS.out ?_
    rintro e w8 ⟨rfl, hb8⟩
    have HB8 : Hid (Below w3.heap.size w3 w8) := bthen HBc.out hb8
    have HF8 : Hid _ := K3.out w8 HB8.out
    have QK : Hid _ := kept_any g 0 o.ua n cw o.uc o.u.d w8 (by rw [HN.out]; exact HK.out.ud.dl) HF8.out.2.2.2.2.2.1 HF8.out.2.2.1.seg HK.out.ud.d256 HN3.out.1 HN3.out.2
    have cu8 := HF8.out.2.1.cu
    rw [← HN.out] at cu8
    clear hb8 QS HUR HF
    go_wp2_with fail
    refine Calls.mono QK.out ?_
    rintro e wz ⟨rfl, rfl⟩
    go_wp2
    go_ret
    exact ⟨rfl, HF8.out.1⟩
  case first =>
    by_cases h2 : o.kind = 2
    · have q2 : (o.kind == 2) = true := by rw [h2]; rfl
      clear h2
      have HF : Hid _ := K3.out w3 (Below.refl _ _)
      have QC : Hid _ := chkU_any o.N o.u (some ⟨g, 0, none⟩) n cw w3 HF.out.2.2.2.2.1.dl HF.out.2.2.2.2.1.sm
      have cn := HF.out.2.1.cn
      obtain ⟨E, hE⟩ : ∃ E, E = L4.uChk o.N o.u := ⟨_, rfl⟩
      have QR : Hid (∀ A, Calls Tryz.prog 28 #[.int .i64 o.N, .agg (uC o.u o.ua n o.uc)] A fun e w' => e = .returned (.int .i64 (E : Int)) ∧ Below A.heap.size A w') := fun A => by
        rw [hE]
        exact rcheckU_any o.N o.u o.ua n o.uc A HF.out.2.2.1.dl HF.out.2.2.1.sm
      rw [← hE] at QC
      clear hE
      go_wp2_with (refine wpList_load_u9 (.tmp 3) rfl P o.u (some ⟨g, 0, none⟩) n cw rfl HF.out.2.2.2.2.2.2 rfl ?_)
      refine Calls.mono QC.out ?_
      rintro e w4 ⟨rfl, hb4⟩
      have HB4 : Hid (Below w3.heap.size w3 w4) := hb4
      clear hb4 QC cn c0 q2 HF
      go_upto_region 7 with fail
      refine MixH.start (fun A => Below w3.heap.size w3 A) (by kernel_rfl) ?_
      obtain ⟨wA, hwA⟩ : ∃ wA, wA = w4.drew := ⟨_, rfl⟩
      have hS : Below w3.heap.size w3 wA := by rw [hwA]; exact bthen HB4.out (Below.refl _ _).drew
      rw [← hwA]
      clear hwA
      refine MixH.takes [true, false, true, false, true] 6 (by kernel_rfl) (by kernel_rfl) (by decide) (by kernel_rfl) hS (fun K hK => ?_)
      simp only [Mix.pick]
      repeat (go_big_quiet_step (fail))
      refine wpQuiet_nil (hK _ ?_)
      clear hK K
      refine MixH.take 5 3 _ (.int .i64 o.N) rfl (by kernel_rfl) (by kernel_rfl) (by kernel_rfl) (by kernel_rfl) (yields_int (.tmp 32) rfl ⟨O, 50, none⟩ _ rfl rfl (fun A hA => (K3.out A hA).2.1.cn)) hS (fun a' ha => ?_)
      simp only [Act.put, List.setIfInBounds_toArray, List.set_cons_succ, List.set_cons_zero] at ha
      subst ha
      refine MixH.take 4 5 _ (.agg (uC o.u o.ua n o.uc)) rfl (by kernel_rfl) (by kernel_rfl) (by kernel_rfl) (by kernel_rfl) (yields_um (.tmp 34) rfl O 36 o.u o.ua n o.uc rfl rfl (fun A hA => by have h := (K3.out A hA).2.1.ur; rw [← HN.out] at h; exact h)) hS (fun a' ha => ?_)
      simp only [Act.put, List.setIfInBounds_toArray, List.set_cons_succ, List.set_cons_zero] at ha
      subst ha
      refine MixH.one [false, true] 3 1 _ rfl rfl (by kernel_rfl) (by kernel_rfl) (fun K hK => ?_)
      simp only [Mix.pick]
      go_wp2_with fail
      refine Calls.mono (num9_any (E : Int) wA) ?_
      rintro ex wn ⟨rfl, rfl⟩
      go_wp2
      refine ⟨rfl, hK _ _ hS ?_⟩
      clear hK K
      refine MixH.one [false, false, false, false, false, false, true] 2 6 _ rfl rfl (by kernel_rfl) (by kernel_rfl) (fun K hK => ?_)
      simp only [Mix.pick]
      go_wp2_with fail
      refine Calls.mono (QR.out wA) ?_
      rintro ex w5 ⟨rfl, hb5⟩
      replace hS : Below w3.heap.size w3 w5 := bthen hS hb5
      clear hb5
      go_wp2
      refine ⟨rfl, hK _ _ hS ?_⟩
      clear hK K
      refine MixH.takes [false, false, false, false, false, false, false, true, true] 0 (by kernel_rfl) (by kernel_rfl) (by decide) (by kernel_rfl) hS (fun K hK => ?_)
      simp only [Mix.pick]
      repeat (go_big_quiet_step (fail))
      refine wpQuiet_nil (hK _ ?_)
      clear hK K
      refine MixH.done (by kernel_rfl) ?_
      have qq : ((E : Int) == (E : Int)) = true := by simp
      have HEND : Hid (Below w3.heap.size w3 w5) := hS
      go_wp2
      go_meet
      exact ⟨rfl, HEND⟩
    have q2 : (o.kind == 2) = false := by simpa using h2
    clear h2
    have HF : Hid _ := K3.out w3 (Below.refl _ _)
    have QP : Hid _ := putU_w o.V o.U o.x o.y o.u (some ⟨g, 0, none⟩) n cw w3 HF.out.2.2.2.1.u HF.out.2.2.2.2.1 HK.out.x256 HK.out.y256
    have HSD : Hid (w3.rangeAt O 1 (ipCells o.V o.x).toList ∧ w3.rangeAt O 18 (ipCells o.U o.y).toList) := ⟨HF.out.2.1.src, HF.out.2.1.dst⟩
    obtain ⟨l, hl⟩ : ∃ l, l = wU9 o.V o.U o.x o.y o.u n := ⟨_, rfl⟩
    obtain ⟨E, hE⟩ : ∃ E, E = L4.uPutE (psOk o.V o.U o.x o.y) o.V o.u := ⟨_, rfl⟩
    have HL2 : Hid (∀ z ∈ l, z < 256) := by rw [hl]; exact (wU9_ok o.V o.U o.x o.y HF.out.2.2.1).1
    have QR : Hid (∀ A, Below w3.heap.size w3 A → Calls Tryz.prog 19 #[.agg (ipCells o.V o.x), .agg (ipCells o.U o.y), .agg (uC o.u o.ua n o.uc)] A fun e w' => ∃ va vc, e = .returned (.tuple #[.slice va l.length vc, .int .i64 (E : Int)]) ∧ Below A.heap.size A w' ∧ w'.ownsRow A.heap.size 5 1 (.slice va l.length vc) l.length ((toI l).map (Value.int .u8))) := fun A hA => by
      rw [hl, hE]
      exact rputU_any o.V o.U o.x o.y o.u o.ua n o.uc A (K3.out A hA).2.2.1 HK.out.x256 HK.out.y256
    rw [← hl, ← hE] at QP
    clear hl hE
    obtain ⟨L, hL⟩ : ∃ L, L = l.length := ⟨_, rfl⟩
    rw [← hL] at QP QR
    have HL : Hid (L = l.length) := hL
    clear hL
    go_upto_region 8 with fail
    clear q2 c0
    go_wp2_with (first | (refine wpList_load_ipm (.tmp 39) rfl O 1 o.V o.x rfl HSD.out.1 rfl ?_) | (refine wpList_load_ipm (.tmp 41) rfl O 18 o.U o.y rfl HSD.out.2 rfl ?_) | (refine wpList_load_u9 (.tmp 3) rfl P o.u (some ⟨g, 0, none⟩) n cw rfl HF.out.2.2.2.2.2.2 rfl ?_))
    refine Calls.mono QP.out ?_
    rintro e w4 ⟨va, rfl, hb4, ho4⟩
    have HB4 : Hid (Below w3.heap.size w3 w4) := hb4
    have HO4 : Hid (w4.ownsRow w3.heap.size 5 1 (.slice va L L) L ((toI l).map (Value.int .u8))) := ho4
    have HF4 : Hid _ := K3.out w4 hb4
    have HSD4 : Hid (w4.rangeAt O 1 (ipCells o.V o.x).toList ∧ w4.rangeAt O 18 (ipCells o.U o.y).toList) := ⟨HF4.out.2.1.src, HF4.out.2.1.dst⟩
    have HUR : Hid (w4.rangeAt O 36 (uC o.u o.ua n o.uc).toList) := by
      have h := HF4.out.2.1.ur
      rw [← HN.out] at h
      exact h
    clear hb4 ho4 QP HSD HF
    go_upto_region 9 with fail
    go_wp2_with (first | (refine wpList_load_ipm (.tmp 48) rfl O 1 o.V o.x rfl HSD4.out.1 rfl ?_) | (refine wpList_load_ipm (.tmp 50) rfl O 18 o.U o.y rfl HSD4.out.2 rfl ?_) | (refine wpList_load_um (.tmp 52) rfl O 36 o.u o.ua n o.uc rfl HUR.out rfl ?_))
    refine Calls.mono (QR.out w4 HB4.out) ?_
    rintro e w5 ⟨vb, vc, rfl, hb5, ho5⟩
    have HB5 : Hid (Below w3.heap.size w3 w5) := bthen HB4.out hb5
    have QM : Hid _ := num9_any (E : Int) w5
    have QA : Hid _ := alike_any va vb L L L vc l l w5 HL.out.symm HL.out.symm (owns_at (own_dn hb5 HO4.out)).1 (owns_at ho5).1 HL2.out HL2.out
    rw [decide_eq_true (rfl : l = l)] at QA
    clear hb5 ho5 QR HO4 HF4 HSD4 HUR
    go_upto_region 10 with fail
    go_wp2_with fail
    refine Calls.mono QM.out ?_
    rintro e wz ⟨rfl, rfl⟩
    have qq : ((E : Int) == (E : Int)) = true := by simp
    go_wp2_with fail
    refine Calls.mono QA.out ?_
    rintro e wz ⟨rfl, rfl⟩
    clear QA QM
    go_wp2
    go_meet
    exact ⟨rfl, HB5⟩
end Go.Proofs.YtfoeepbndfnifaaGreatDoor
namespace Go.Proofs.YtfoeepbndfnifaaGreatDoor
open Go.RowKit
open L4 (U9 T9)
/-- what stands while the call is made -/
structure TcK (w : World) (o : Cl9) (O P g cw : Nat) (a1 : Option Addr) (mc1 : Nat) (wa1 : Option Addr) (ps1 : List OpV) (a2 wa2 : Option Addr) (ps2 : List OpV) (A : World) : Prop where
  bel : Below w.heap.size w A
  op : OpAt A O o
  tabs : Tabs A
  ok : o.Ok A
  tk : TOk A o.t a1 o.ln ps1 (some ⟨g, 0, none⟩) o.n cw
  seg : Seg .u8 A (some ⟨g, 0, none⟩) (toI (o.t.d ++ [91, 92, 93]))
  tat : TAt A P o.t a1 o.ln mc1 (some ⟨g, 0, none⟩) o.n cw
  l1 : LaidAt A o.os a1 wa1 ps1
  l2 : LaidAt A o.ms a2 wa2 ps2
theorem TcK.old {w : World} {o : Cl9} {O P g cw : Nat} {a1 : Option Addr} {mc1 : Nat} {wa1 : Option Addr} {ps1 : List OpV} {a2 wa2 : Option Addr} {ps2 : List OpV} {A B : World} (h : TcK w o O P g cw a1 mc1 wa1 ps1 a2 wa2 ps2 A) (b : Below A.heap.size A B) : TcK w o O P g cw a1 mc1 wa1 ps1 a2 wa2 ps2 B :=
  ⟨bthen h.bel b, h.op.below b, h.tabs.old b, h.ok.old b, h.tk.old b, h.seg.old b, TAt.below h.tat b, h.l1.old b, h.l2.old b⟩
theorem putT_w (V U : Int) (x y : Nat → Nat) (t : T9) (la : Option Addr) (ln lc : Nat) (os : List OpV) (da : Option Addr) (n c : Nat) (w : World) (hw : TW w) (hlw : LW w) (k : TOk w t la ln os da n c) (hx : ∀ i, i < 16 → x i < 256) (hy : ∀ i, i < 16 → y i < 256) :
    Calls Tryz.prog 15 #[.agg (ipCells V x), .agg (ipCells U y), .agg (tC t la ln lc da n c)] w fun e w' => ∃ va, e = .returned (.tuple #[.slice va (wT9 V U x y t n).length (wT9 V U x y t n).length, .int .i64 ((L4.tPutE (psOk V U x y) t : Nat) : Int)]) ∧ Below w.heap.size w w' ∧ w'.ownsRow w.heap.size 5 1 (.slice va (wT9 V U x y t n).length (wT9 V U x y t n).length) (wT9 V U x y t n).length ((toI (wT9 V U x y t n)).map (Value.int .u8)) := by
  refine (putT_any V U x y t la ln lc os da n c w hw hlw k hx hy).mono ?_
  rintro e w' ⟨v, er, rfl, her, hb, hr⟩
  rcases hr with ⟨h0, g, rfl, ho⟩ | ⟨h0, rfl⟩
  · have e1 : wT9 V U x y t n = L4.tSer t (psL V U x y 6 ((20 + (I4.putO t.os).length + n : Nat) : Int)) := by unfold wT9; rw [if_pos (by rw [← her]; exact h0)]
    have e2 : (wT9 V U x y t n).length = 20 + (I4.putO t.os).length + n := by rw [e1, L4.tSer_len, k.d.dl]
    exact ⟨some ⟨g, 0, none⟩, by rw [e2, her], hb, by rw [e2, e1]; exact ho⟩
  · have e1 : wT9 V U x y t n = [] := by unfold wT9; rw [if_neg (by rw [← her]; exact h0)]
    rw [e1]
    exact ⟨none, by rw [her]; rfl, hb, World.ownsRow_nil _ _ _ _⟩
theorem putO_w (la : Option Addr) (n cap : Nat) (os : List OpV) (w : World) (hd : LW w) (hn : os.length = n) (ho : OptsAt w la os) (hnn : n ≤ 1048576) :
    Calls Tryz.prog 16 #[.slice la n cap] w fun e w' => ∃ va, e = .returned (.tuple #[.slice va (wO9 os).length (wO9 os).length, .int .i64 (tpE (vals os))]) ∧ Below w.heap.size w w' ∧ w'.ownsRow w.heap.size 5 1 (.slice va (wO9 os).length (wO9 os).length) (wO9 os).length ((toI (wO9 os)).map (Value.int .u8)) := by
  refine (tput_any la n cap os w hd hn ho (by omega)).mono ?_
  rintro e w' ⟨v, rfl, hb, hr⟩
  rcases hr with ⟨h0, g, rfl, ho⟩ | ⟨h0, rfl⟩
  · have e1 : wO9 os = I4.putO (vals os) := by unfold wO9; rw [if_pos h0]
    rw [e1]
    exact ⟨some ⟨g, 0, none⟩, rfl, hb, ho⟩
  · have e1 : wO9 os = [] := by unfold wO9; rw [h0]; rfl
    rw [e1]
    exact ⟨none, rfl, hb, World.ownsRow_nil _ _ _ _⟩
theorem small_vals {ps os : List OpV} (h : vals ps = vals os) (hs : ∀ o ∈ os, o.d.length ≤ 1048576) : ∀ p ∈ ps, p.d.length ≤ 1048576 := by
  intro p hp
  have h1 : p.val ∈ vals ps := List.mem_map.2 ⟨p, hp, rfl⟩
  rw [h] at h1
  obtain ⟨q, hq, e⟩ := List.mem_map.1 h1
  have e2 : q.d = p.d := congrArg (fun z : Int × List Nat => z.2) e
  rw [← e2]
  exact hs q hq
theorem tat_range {w : World} {O : Nat} {t : T9} {la : Option Addr} {ln lc : Nat} {da : Option Addr} {n c : Nat} (k : TAt w O t la ln lc da n c) : w.rangeAt O 0 (tC t la ln lc da n c).toList := by
  intro j v hj
  unfold TAt at k
  rw [Nat.zero_add]
  simp only [World.cell?, k]
  simpa using hj
theorem yields_t9x {ops : Array Oper} {o : Oper} {a : Act} {S : World → Prop} (x : Operand) (ho : o.op = .load 33 x) (O : Nat) (t : T9) (la : Option Addr) (ln lc : Nat) (da : Option Addr) (n c : Nat) (hx : a.eval x = .pointer (some ⟨O, 0, none⟩)) (hw : Region.wanted o (yielded ops a.tmps) = true) (hS : ∀ w, S w → TAt w O t la ln lc da n c) : YieldsIf Tryz.prog ops S o (.agg (tC t la ln lc da n c)) a :=
  yieldsIf_load_mid hw 33 x ho O 0 hx _ _ (fun w h => tat_range (hS w h)) Tryz.underlying33 rfl Tryz.sizeT9
set_option maxHeartbeats 6400000 in
set_option maxRecDepth 100000 in
theorem tcps_any (o : Cl9) (w : World) (hT : Tabs w) (hk : o.Ok w) :
    Calls Tryz.prog 42 #[.agg o.cells.toArray] w fun e w' => e = .returned (.bool true) ∧ Below w.heap.size w w' := by
  obtain ⟨W, hW⟩ : ∃ W, W = w.alloc (.cells o.cells.toArray 84) := ⟨_, rfl⟩
  obtain ⟨O, hO⟩ : ∃ O, O = w.heap.size := ⟨_, rfl⟩
  have bel : Below w.heap.size w W := by rw [hW]; exact (Below.refl _ _).alloc (Nat.le_refl _) _
  have hr : OpAt W O o := by rw [hW, hO]; exact opAt_new _ _
  obtain ⟨M, hM⟩ : ∃ M, M = o.cells.toArray := ⟨_, rfl⟩
  have HW : Hid (w.alloc (.cells M 84) = W ∧ w.heap.size = O) := ⟨by rw [hM]; exact hW.symm, hO.symm⟩
  have KO : Hid (∀ A, Below W.heap.size W A → OpAt A O o) := fun A hA => hr.below hA
  have HK : Hid (o.Ok w) := hk
  have HT : Hid (Tabs w) := hT
  have HBW : Hid (Below w.heap.size w W) := bel
  have HUR : Hid (W.rangeAt O 40 (tC o.t o.la o.ln o.lc o.da o.n o.c).toList) := hr.tr
  have bA : Below W.heap.size W (W.alloc (.cells (tC t9z none 0 0 none 0 0) 33)) := (Below.refl _ _).alloc (Nat.le_refl _) _
  obtain ⟨WA, hWA⟩ : ∃ WA, WA = W.alloc (.cells (tC t9z none 0 0 none 0 0) 33) := ⟨_, rfl⟩
  obtain ⟨P, hP⟩ : ∃ P, P = W.heap.size := ⟨_, rfl⟩
  have HNB : Hid (TAt WA P t9z none 0 0 none 0 0) := by rw [hWA, hP]; exact tAt_new _ _ _ _ _ _ _ _
  rw [← hWA] at bA
  have HWA : Hid (W.alloc (.cells #[.int .i64 0, .int .i64 0, .int .i64 0, .int .i64 0, .int .i64 0, .int .i64 0, .int .i64 0, .slice none 0 0, .slice none 0 0] 33) = WA ∧ W.heap.size = P) := ⟨hWA.symm, hP.symm⟩
  have HBA : Hid (Below W.heap.size W WA) := bA
  have HBP : Hid (W.heap.size ≤ P) := by rw [hP]; exact Nat.le_refl _
  rw [← hM]
  clear hW hO hr hM hk hT bel bA hWA hP
  go_enter Tryz.func42, Tryz.ntmps42
  go_upto_region 1 with fail
  rw [HW.out.1, HW.out.2]
  clear HW
  go_wp2_with (first | (refine wpList_load_tm (.tmp 24) rfl O 40 o.t o.la o.ln o.lc o.da o.n o.c rfl HUR.out rfl ?_) | (refine wpList_store_t9 (.tmp 3) (.tmp 25) rfl rfl P t9z none 0 0 none 0 0 o.t o.la o.ln o.lc o.da o.n o.c (by rw [← HWA.out.2]; rfl) rfl (by have h := HNB.out; rw [← HWA.out.1] at h; exact h) rfl ?_))
  rw [HWA.out.1, HWA.out.2]
  intro w1 hR1 k1
  have hbW1 : Below W.heap.size W w1 := HBA.out.trans (k1.below (fun q s => by have e : q = P := s; have := HBP.out; omega) HBA.out.size)
  have HB1 : Hid (Below W.heap.size W w1 ∧ Below w.heap.size w w1) := ⟨hbW1, bthen HBW.out hbW1⟩
  have HR1 : Hid (TAt w1 P o.t o.la o.ln o.lc o.da o.n o.c) := hR1
  have QW : Hid _ := wide_any o.da o.n o.c o.t.d w1 HK.out.tk.d.dl (HK.out.tk.d.old HB1.out.2).seg HK.out.tn
  have c8 := HR1.out.c8
  clear hR1 k1 hbW1 HUR HNB HWA
  go_wp2_with fail
  refine Calls.mono QW.out ?_
  rintro e w2 ⟨g, cw, rfl, hw2, hb2⟩
  have HO2 : Hid (w2.ownsRow w1.heap.size 5 1 (.slice (some ⟨g, 0, none⟩) (o.n + 3) cw) (o.n + 3) ((toI (o.t.d ++ [91, 92, 93])).map (Value.int .u8))) := hw2
  have HB2 : Hid (Below W.heap.size W w2 ∧ Below w.heap.size w w2) := ⟨bthen HB1.out.1 hb2, bthen HB1.out.2 hb2⟩
  have HR2 : Hid (TAt w2 P o.t o.la o.ln o.lc o.da o.n o.c) := HR1.out.below hb2
  have HPG : Hid (P < w1.heap.size ∧ w1.heap.size ≤ w2.heap.size) := ⟨HR1.out.lt, hb2.size⟩
  have QL : Hid _ := laid_any o.la o.ln o.lc o.os w2 HK.out.tk.ol (HK.out.tk.oat.old HB2.out.2) HK.out.tln HK.out.tsm
  have c7 := HR2.out.c7
  clear QW hw2 hb2 c8 HR1 HB1
  go_wp2_with fail
  refine Calls.mono QL.out ?_
  rintro e w3 ⟨a1, mc1, wa1, wc1, ps1, rfl, hb3, hp1, hm1, hl1, hn1⟩
  obtain ⟨b1, f1, ha1, _⟩ := hl1.opts.at o.ln op99 (by rw [List.getElem?_append_right (by omega), hp1, Nat.sub_self]; rfl)
  subst ha1
  have HO3 : Hid _ := own_dn hb3 HO2.out
  have HB3 : Hid (Below W.heap.size W w3 ∧ Below w.heap.size w w3) := ⟨bthen HB2.out.1 hb3, bthen HB2.out.2 hb3⟩
  have HR3 : Hid (TAt w3 P o.t o.la o.ln o.lc o.da o.n o.c) := HR2.out.below hb3
  obtain ⟨h4, k4⟩ := tAt_set8 HR3.out (some ⟨g, 0, none⟩) o.n cw
  have p8 := HR3.out.c8
  have f8 := HR3.out.fz 8
  have cd := (KO.out w3 HB3.out.1).cd
  obtain ⟨w4, hw4⟩ : ∃ w4, w4 = w3.setCell ⟨P, 8, none⟩ (.slice (some ⟨g, 0, none⟩) o.n cw) := ⟨_, rfl⟩
  rw [← hw4] at h4 k4
  have HW4 : Hid (w3.setCell ⟨P, 8, none⟩ (.slice (some ⟨g, 0, none⟩) o.n cw) = w4) := hw4.symm
  obtain ⟨h5, k5⟩ := tAt_set7 h4 (some ⟨b1, f1, none⟩) o.ln mc1
  have p7 := h4.c7
  have f7 := h4.fz 7
  obtain ⟨w5, hw5⟩ : ∃ w5, w5 = w4.setCell ⟨P, 7, none⟩ (.slice (some ⟨b1, f1, none⟩) o.ln mc1) := ⟨_, rfl⟩
  rw [← hw5] at h5 k5
  have HW5 : Hid (w4.setCell ⟨P, 7, none⟩ (.slice (some ⟨b1, f1, none⟩) o.ln mc1) = w5) := hw5.symm
  have hb4 : Below W.heap.size W w4 := HB3.out.1.trans (k4.below (fun q s => by have e : q = P := s; have := HBP.out; omega) HB3.out.1.size)
  have hb5 : Below W.heap.size W w5 := hb4.trans (k5.below (fun q s => by have e : q = P := s; have := HBP.out; omega) hb4.size)
  have cl := (KO.out w4 hb4).cl
  have hd3 : DOk w3 (o.t.d ++ [91, 92, 93]) (some ⟨g, 0, none⟩) (o.n + 3) cw := own_dok HO3.out (by
    intro z hz
    rcases List.mem_append.1 hz with h | h
    · exact HK.out.tk.d.d256 z h
    · simp at h; omega) (by have := HK.out.tn; omega)
  have hgP : ∀ z : Addr, some (⟨g, 0, none⟩ : Addr) = some z → ¬ (fun q => q = P) z.block := fun z hz s => by
    have e : z.block = P := s
    have e2 := Option.some.inj hz
    rw [← e2] at e
    have e3 : g = P := e
    have := (HO2.out.lt g rfl).1
    have := HPG.out
    omega
  have hd5 : DOk w5 (o.t.d ++ [91, 92, 93]) (some ⟨g, 0, none⟩) (o.n + 3) cw := (hd3.ch k4 hgP).ch k5 hgP
  have hl5 : LaidAt w5 o.os (some ⟨b1, f1, none⟩) wa1 ps1 := (hl1.ch k4 hn1 (fun x hx s => by have e : x = P := s; have := HPG.out; omega)).ch k5 hn1 (fun x hx s => by have e : x = P := s; have := HPG.out; omega)
  have hpre : DOk w5 o.t.d (some ⟨g, 0, none⟩) o.n cw := by
    have h := hd5.pre o.n (by omega)
    rw [List.take_append_of_le_length (by rw [HK.out.tk.d.dl]; exact Nat.le_refl _), List.take_of_length_le (by rw [HK.out.tk.d.dl]; exact Nat.le_refl _)] at h
    exact h
  have n1 : ((o.n : Nat) : Int) ≤ (cw : Int) := by have := hpre.cap; omega
  have n0 : (0 : Int) ≤ ((o.n : Nat) : Int) := by omega
  have n2 : (((o.n : Nat) : Int)).toNat = o.n := by omega
  have m1 : ((o.ln : Nat) : Int) ≤ (mc1 : Int) := by omega
  have m0 : (0 : Int) ≤ ((o.ln : Nat) : Int) := by omega
  have m2 : (((o.ln : Nat) : Int)).toNat = o.ln := by omega
  have hbw5 := bthen HBW.out hb5
  have QL2 : Hid _ := laid_any o.ma o.mn o.mc o.ms w5 HK.out.ml (HK.out.mo.old hbw5) HK.out.mm HK.out.md
  have cm := (KO.out w5 hb5).cm
  have HTK : Hid (TOk w5 o.t (some ⟨b1, f1, none⟩) o.ln ps1 (some ⟨g, 0, none⟩) o.n cw) := ⟨hl5.vs.trans HK.out.tk.ov, hp1, hl5.opts.front, HK.out.tk.on, hpre⟩
  have H5 : Hid (TAt w5 P o.t (some ⟨b1, f1, none⟩) o.ln mc1 (some ⟨g, 0, none⟩) o.n cw ∧ LaidAt w5 o.os (some ⟨b1, f1, none⟩) wa1 ps1 ∧ DOk w5 (o.t.d ++ [91, 92, 93]) (some ⟨g, 0, none⟩) (o.n + 3) cw ∧ Below w.heap.size w w5 ∧ Below W.heap.size W w5) := ⟨h5, hl5, hd5, hbw5, hb5⟩
  have HPM : Hid (ps1.length = o.ln ∧ o.ln + 1 ≤ mc1 ∧ o.n + 3 ≤ cw) := ⟨hp1, hm1, hd5.cap⟩
  clear QL hb3 hp1 hm1 hl1 hn1 h4 k4 hw4 h5 k5 hw5 hb4 hb5 hd3 hgP hd5 hl5 hpre hbw5 c7 HO2 HO3 HR2 HR3 HB2 HPG HBP HBA
  go_upto_region 5 with fail
  rw [HW4.out]
  clear HW4 p8 f8 cd
  go_upto_region 6 with fail
  rw [HW5.out]
  clear HW5 p7 f7 cl HB3
  go_wp2_with fail
  refine Calls.mono QL2.out ?_
  rintro e w6 ⟨a2, mc2, wa2, wc2, ps2, rfl, hb6, hp2, hm2, hl2, hn2⟩
  obtain ⟨b2, f2, ha2, _⟩ := hl2.opts.at o.mn op99 (by rw [List.getElem?_append_right (by omega), hp2, Nat.sub_self]; rfl)
  subst ha2
  have hbw6 := bthen H5.out.2.2.2.1 hb6
  have hF : TcK w o O P g cw (some ⟨b1, f1, none⟩) mc1 wa1 ps1 (some ⟨b2, f2, none⟩) wa2 ps2 w6 := ⟨hbw6, KO.out w6 (bthen H5.out.2.2.2.2 hb6), HT.out.old hbw6, HK.out.old hbw6, HTK.out.old hb6, H5.out.2.2.1.seg.old hb6, TAt.below H5.out.1 hb6, H5.out.2.1.old hb6, hl2⟩
  have K6 : Hid (∀ A, Below w6.heap.size w6 A → TcK w o O P g cw (some ⟨b1, f1, none⟩) mc1 wa1 ps1 (some ⟨b2, f2, none⟩) wa2 ps2 A) := fun A hA => hF.old hA
  have HPM2 : Hid (ps2.length = o.mn ∧ o.mn + 1 ≤ mc2) := ⟨hp2, hm2⟩
  have c0 := hF.op.c0
  clear QL2 hb6 hp2 hm2 hl2 hn2 hbw6 hF cm HTK H5 KO HBW n1 n0 n2 m1 m0 m2
  go_upto_block 0 with fail
  go_cut [9] (fun s wx => s = .bool true ∧ Hid (Below w6.heap.size w6 wx))
  case rest =>
    obtain ⟨rfl, HBc⟩ := hcut
    have HF : Hid _ := K6.out wc HBc.out
    have QS : Hid _ := sameT_true o.t (some ⟨b1, f1, none⟩) o.la o.ln mc1 o.lc ps1 o.os (some ⟨g, 0, none⟩) o.da o.n cw o.c wc HF.out.tk.oat HF.out.ok.tk.oat HPM.out.1 HF.out.l1.vs HF.out.tk.on HF.out.tk.d HF.out.ok.tk.d
    have HUR : Hid (wc.rangeAt O 40 (tC o.t o.la o.ln o.lc o.da o.n o.c).toList) := HF.out.op.tr
    clear c0
    go_wp2_with (first | (refine wpList_load_t9 (.tmp 3) rfl P o.t (some ⟨b1, f1, none⟩) o.ln mc1 (some ⟨g, 0, none⟩) o.n cw rfl HF.out.tat rfl ?_) | (refine wpList_load_tm (.tmp 160) rfl O 40 o.t o.la o.ln o.lc o.da o.n o.c rfl HUR.out rfl ?_))
    refine Calls.mono QS.out ?_
    rintro e w8 ⟨rfl, hb8⟩
    have HB8 : Hid (Below w6.heap.size w6 w8) := bthen HBc.out hb8
    have HF8 : Hid _ := K6.out w8 HB8.out
    have QK : Hid _ := kept_any g 0 o.da o.n cw o.c o.t.d w8 HK.out.tk.d.dl HF8.out.seg HF8.out.ok.tk.d.seg HK.out.tk.d.d256 HPM.out.2.2 HK.out.tn
    have QS1 : Hid _ := same_laid (some ⟨b1, f1, none⟩) wa1 o.la o.ln mc1 wc1 o.lc o.os ps1 w8 HK.out.tk.ol HPM.out.1 HPM.out.2.1 HF8.out.l1 HF8.out.ok.tk.oat HK.out.tln HK.out.tsm
    have cd8 := HF8.out.op.cd
    have cl8 := HF8.out.op.cl
    clear hb8 QS HUR HF
    go_wp2_with fail
    refine Calls.mono QK.out ?_
    rintro e wz ⟨rfl, rfl⟩
    go_wp2_with fail
    refine Calls.mono QS1.out ?_
    rintro e w9 ⟨rfl, hb9⟩
    have HB9 : Hid (Below w6.heap.size w6 w9) := bthen HB8.out hb9
    have HF9 : Hid _ := K6.out w9 HB9.out
    have QS2 : Hid _ := same_laid (some ⟨b2, f2, none⟩) wa2 o.ma o.mn mc2 wc2 o.mc o.ms ps2 w9 HK.out.ml HPM2.out.1 HPM2.out.2 HF9.out.l2 HF9.out.ok.mo HK.out.mm HK.out.md
    have cm9 := HF9.out.op.cm
    clear hb9 QK QS1 cd8 cl8
    go_wp2_with fail
    refine Calls.mono QS2.out ?_
    rintro e w10 ⟨rfl, hb10⟩
    have HBE : Hid (Below w.heap.size w w10) := bthen HF9.out.bel hb10
    clear hb10
    go_wp2
    go_ret
    exact ⟨rfl, HBE.out⟩
  case first =>
    by_cases h5 : o.kind = 5
    · have q5k : (o.kind == 5) = true := by rw [h5]; rfl
      have HF : Hid _ := K6.out w6 (Below.refl _ _)
      have QC : Hid _ := chkT_any o.t (some ⟨b1, f1, none⟩) o.ln mc1 ps1 (some ⟨g, 0, none⟩) o.n cw w6 HF.out.tabs.l HF.out.tk
      obtain ⟨E, hE⟩ : ∃ E, E = L4.tChk o.t := ⟨_, rfl⟩
      have QR : Hid (∀ A, Below w6.heap.size w6 A → Calls Tryz.prog 30 #[.agg (tC o.t o.la o.ln o.lc o.da o.n o.c)] A fun e w' => e = .returned (.int .i64 (E : Int)) ∧ Below A.heap.size A w') := fun A hA => by
        rw [hE]
        exact rcheckT_any o.t o.la o.ln o.lc o.os o.da o.n o.c A (K6.out A hA).ok.tk HK.out.tln HK.out.tsm
      rw [← hE] at QC
      clear hE
      go_upto_region 10 with fail
      clear q5k h5
      go_wp2_with (refine wpList_load_t9 (.tmp 3) rfl P o.t (some ⟨b1, f1, none⟩) o.ln mc1 (some ⟨g, 0, none⟩) o.n cw rfl HF.out.tat rfl ?_)
      refine Calls.mono QC.out ?_
      rintro e w7 ⟨rfl, hb7⟩
      have HB7 : Hid (Below w6.heap.size w6 w7) := hb7
      clear hb7 QC HF c0
      go_upto_region 11 with fail
      refine MixH.start (fun A => Below w6.heap.size w6 A) (by kernel_rfl) ?_
      obtain ⟨wA, hwA⟩ : ∃ wA, wA = w7.drew := ⟨_, rfl⟩
      have hS : Below w6.heap.size w6 wA := by rw [hwA]; exact bthen HB7.out (Below.refl _ _).drew
      rw [← hwA]
      clear hwA
      refine MixH.takes [true, false, true] 5 (by kernel_rfl) (by kernel_rfl) (by decide) (by kernel_rfl) hS (fun K hK => ?_)
      simp only [Mix.pick]
      repeat (go_big_quiet_step (fail))
      refine wpQuiet_nil (hK _ ?_)
      clear hK K
      refine MixH.take 4 3 _ (.agg (tC o.t o.la o.ln o.lc o.da o.n o.c)) rfl (by kernel_rfl) (by kernel_rfl) (by kernel_rfl) (by kernel_rfl) (yields_tm (.tmp 63) rfl O 40 o.t o.la o.ln o.lc o.da o.n o.c rfl rfl (fun A hA => (K6.out A hA).op.tr)) hS (fun a' ha => ?_)
      simp only [Act.put, List.setIfInBounds_toArray, List.set_cons_succ, List.set_cons_zero] at ha
      subst ha
      refine MixH.one [false, true] 3 1 _ rfl rfl (by kernel_rfl) (by kernel_rfl) (fun K hK => ?_)
      simp only [Mix.pick]
      go_wp2_with fail
      refine Calls.mono (num9_any (E : Int) wA) ?_
      rintro ex wn ⟨rfl, rfl⟩
      go_wp2
      refine ⟨rfl, hK _ _ hS ?_⟩
      clear hK K
      refine MixH.one [false, false, false, false, true] 2 4 _ rfl rfl (by kernel_rfl) (by kernel_rfl) (fun K hK => ?_)
      simp only [Mix.pick]
      go_wp2_with fail
      refine Calls.mono (QR.out wA hS) ?_
      rintro ex w8 ⟨rfl, hb8⟩
      replace hS : Below w6.heap.size w6 w8 := bthen hS hb8
      clear hb8
      go_wp2
      refine ⟨rfl, hK _ _ hS ?_⟩
      clear hK K
      refine MixH.takes [false, false, false, false, false, true, true] 0 (by kernel_rfl) (by kernel_rfl) (by decide) (by kernel_rfl) hS (fun K hK => ?_)
      simp only [Mix.pick]
      repeat (go_big_quiet_step (fail))
      refine wpQuiet_nil (hK _ ?_)
      clear hK K
      refine MixH.done (by kernel_rfl) ?_
      have qq : ((E : Int) == (E : Int)) = true := by simp
      have HEND : Hid (Below w6.heap.size w6 w8) := hS
      go_wp2
      go_meet
      exact ⟨rfl, HEND⟩
    have q5k : (o.kind == 5) = false := by simpa using h5
    by_cases h6 : o.kind = 6
    · have q6k : (o.kind == 6) = true := by rw [h6]; rfl
      have HF : Hid _ := K6.out w6 (Below.refl _ _)
      have QP : Hid _ := putT_w o.V o.U o.x o.y o.t (some ⟨b1, f1, none⟩) o.ln mc1 ps1 (some ⟨g, 0, none⟩) o.n cw w6 HF.out.tabs.t HF.out.tabs.l HF.out.tk HK.out.x256 HK.out.y256
      have HSD : Hid (w6.rangeAt O 1 (ipCells o.V o.x).toList ∧ w6.rangeAt O 18 (ipCells o.U o.y).toList) := ⟨HF.out.op.src, HF.out.op.dst⟩
      obtain ⟨l, hl⟩ : ∃ l, l = wT9 o.V o.U o.x o.y o.t o.n := ⟨_, rfl⟩
      obtain ⟨E, hE⟩ : ∃ E, E = L4.tPutE (psOk o.V o.U o.x o.y) o.t := ⟨_, rfl⟩
      have HL2 : Hid (∀ z ∈ l, z < 256) := by rw [hl]; exact (wT9_ok o.V o.U o.x o.y HF.out.tk).1
      have QR : Hid (∀ A, Below w6.heap.size w6 A → Calls Tryz.prog 20 #[.agg (ipCells o.V o.x), .agg (ipCells o.U o.y), .agg (tC o.t o.la o.ln o.lc o.da o.n o.c)] A fun e w' => ∃ va vc, e = .returned (.tuple #[.slice va l.length vc, .int .i64 (E : Int)]) ∧ Below A.heap.size A w' ∧ w'.ownsRow A.heap.size 5 1 (.slice va l.length vc) l.length ((toI l).map (Value.int .u8))) := fun A hA => by
        rw [hl, hE]
        exact rputT_any o.V o.U o.x o.y o.t o.la o.ln o.lc o.os o.da o.n o.c A (K6.out A hA).ok.tk HK.out.tln HK.out.tsm HK.out.x256 HK.out.y256
      rw [← hl, ← hE] at QP
      clear hl hE
      obtain ⟨L, hL⟩ : ∃ L, L = l.length := ⟨_, rfl⟩
      rw [← hL] at QP QR
      have HL : Hid (L = l.length) := hL
      clear hL
      go_upto_region 13 with fail
      clear q5k h5 q6k h6
      go_wp2_with (first | (refine wpList_load_ipm (.tmp 70) rfl O 1 o.V o.x rfl HSD.out.1 rfl ?_) | (refine wpList_load_ipm (.tmp 72) rfl O 18 o.U o.y rfl HSD.out.2 rfl ?_) | (refine wpList_load_t9 (.tmp 3) rfl P o.t (some ⟨b1, f1, none⟩) o.ln mc1 (some ⟨g, 0, none⟩) o.n cw rfl HF.out.tat rfl ?_))
      refine Calls.mono QP.out ?_
      rintro e w7 ⟨va, rfl, hb7, ho7⟩
      have HB7 : Hid (Below w6.heap.size w6 w7) := hb7
      have HO7 : Hid (w7.ownsRow w6.heap.size 5 1 (.slice va L L) L ((toI l).map (Value.int .u8))) := ho7
      have HF7 : Hid _ := K6.out w7 hb7
      have HSD7 : Hid (w7.rangeAt O 1 (ipCells o.V o.x).toList ∧ w7.rangeAt O 18 (ipCells o.U o.y).toList) := ⟨HF7.out.op.src, HF7.out.op.dst⟩
      clear hb7 ho7 QP HSD HF c0
      go_upto_region 14 with fail
      go_wp2_with (first | (refine wpList_load_ipm (.tmp 79) rfl O 1 o.V o.x rfl HSD7.out.1 rfl ?_) | (refine wpList_load_ipm (.tmp 81) rfl O 18 o.U o.y rfl HSD7.out.2 rfl ?_) | (refine wpList_load_tm (.tmp 83) rfl O 40 o.t o.la o.ln o.lc o.da o.n o.c rfl HF7.out.op.tr rfl ?_))
      refine Calls.mono (QR.out w7 HB7.out) ?_
      rintro e w8 ⟨vb, vc, rfl, hb8, ho8⟩
      have HB8 : Hid (Below w6.heap.size w6 w8) := bthen HB7.out hb8
      have QM : Hid _ := num9_any (E : Int) w8
      have QA : Hid _ := alike_any va vb L L L vc l l w8 HL.out.symm HL.out.symm (owns_at (own_dn hb8 HO7.out)).1 (owns_at ho8).1 HL2.out HL2.out
      rw [decide_eq_true (rfl : l = l)] at QA
      clear hb8 ho8 QR HO7 HF7 HSD7
      go_upto_region 15 with fail
      go_wp2_with fail
      refine Calls.mono QM.out ?_
      rintro e wz ⟨rfl, rfl⟩
      have qq : ((E : Int) == (E : Int)) = true := by simp
      go_wp2_with fail
      refine Calls.mono QA.out ?_
      rintro e wz ⟨rfl, rfl⟩
      clear QA QM
      go_wp2
      go_meet
      exact ⟨rfl, HB8⟩
    have q6k : (o.kind == 6) = false := by simpa using h6
    by_cases h8 : o.kind = 8
    · have q8k : (o.kind == 8) = true := by rw [h8]; rfl
      have HF : Hid _ := K6.out w6 (Below.refl _ _)
      have QP : Hid _ := putO_w (some ⟨b2, f2, none⟩) o.mn mc2 ps2 w6 HF.out.tabs.l HPM2.out.1 HF.out.l2.opts.front HK.out.mm
      have ewo : wO9 ps2 = wO9 o.ms := by unfold wO9; rw [HF.out.l2.vs]
      rw [ewo, HF.out.l2.vs] at QP
      clear ewo
      obtain ⟨l, hl⟩ : ∃ l, l = wO9 o.ms := ⟨_, rfl⟩
      obtain ⟨E, hE⟩ : ∃ E, E = tpE (vals o.ms) := ⟨_, rfl⟩
      have HL2 : Hid (∀ z ∈ l, z < 256) := by rw [hl]; exact (wO9_ok HF.out.ok.mo).1
      have QR : Hid (∀ A, Below w6.heap.size w6 A → Calls Tryz.prog 21 #[.slice o.ma o.mn o.mc] A fun e w' => ∃ va vc, e = .returned (.tuple #[.slice va l.length vc, .int .i64 E]) ∧ Below A.heap.size A w' ∧ w'.ownsRow A.heap.size 5 1 (.slice va l.length vc) l.length ((toI l).map (Value.int .u8))) := fun A hA => by
        rw [hl, hE]
        exact rputTO_any o.ma o.mn o.mc o.ms A HK.out.ml (K6.out A hA).ok.mo HK.out.mm HK.out.md
      rw [← hl, ← hE] at QP
      clear hl hE
      obtain ⟨L, hL⟩ : ∃ L, L = l.length := ⟨_, rfl⟩
      rw [← hL] at QP QR
      have HL : Hid (L = l.length) := hL
      clear hL
      have cm := HF.out.op.cm
      have n0 : (0 : Int) ≤ ((o.mn : Nat) : Int) := by omega
      have n1 : ((o.mn : Nat) : Int) ≤ (mc2 : Int) := by have := HPM2.out.2; omega
      have n2 : (((o.mn : Nat) : Int)).toNat = o.mn := by omega
      go_upto_region 17 with fail
      clear q5k h5 q6k h6 q8k h8
      go_wp2_with fail
      refine Calls.mono QP.out ?_
      rintro e w7 ⟨va, rfl, hb7, ho7⟩
      have HB7 : Hid (Below w6.heap.size w6 w7) := hb7
      have HO7 : Hid (w7.ownsRow w6.heap.size 5 1 (.slice va L L) L ((toI l).map (Value.int .u8))) := ho7
      have cm7 := (K6.out w7 hb7).op.cm
      clear hb7 ho7 QP HF c0 cm
      go_wp2_with fail
      refine Calls.mono (QR.out w7 HB7.out) ?_
      rintro e w8 ⟨vb, vc, rfl, hb8, ho8⟩
      have HB8 : Hid (Below w6.heap.size w6 w8) := bthen HB7.out hb8
      have QM : Hid _ := num9_any E w8
      have QA : Hid _ := alike_any va vb L L L vc l l w8 HL.out.symm HL.out.symm (owns_at (own_dn hb8 HO7.out)).1 (owns_at ho8).1 HL2.out HL2.out
      rw [decide_eq_true (rfl : l = l)] at QA
      clear hb8 ho8 QR HO7 cm7
      go_upto_region 19 with fail
      go_wp2_with fail
      refine Calls.mono QM.out ?_
      rintro e wz ⟨rfl, rfl⟩
      have qq : (E == E) = true := by simp
      go_wp2_with fail
      refine Calls.mono QA.out ?_
      rintro e wz ⟨rfl, rfl⟩
      clear QA QM
      go_wp2
      go_meet
      exact ⟨rfl, HB8⟩
    have q8k : (o.kind == 8) = false := by simpa using h8
    by_cases h9 : o.kind = 9
    · have q9k : (o.kind == 9) = true := by rw [h9]; rfl
      have HF : Hid _ := K6.out w6 (Below.refl _ _)
      have QP : Hid _ := mss_any o.t (some ⟨b1, f1, none⟩) o.ln mc1 ps1 (some ⟨g, 0, none⟩) o.n cw w6 HPM.out.1 HF.out.tk.oat HF.out.tk.on
      rw [HF.out.l1.vs] at QP
      obtain ⟨q, hq⟩ : ∃ q, q = L4.mss (vals o.os) := ⟨_, rfl⟩
      have QR : Hid (∀ A, Below w6.heap.size w6 A → Calls Tryz.prog 23 #[.agg (tC o.t o.la o.ln o.lc o.da o.n o.c)] A fun e w' => e = .returned (.tuple #[.int .i64 ((q.1 : Nat) : Int), .bool q.2]) ∧ Below A.heap.size A w') := fun A hA => by
        rw [hq]
        exact rmss_any o.t o.la o.ln o.lc o.os o.da o.n o.c A HK.out.tk.ol (K6.out A hA).ok.tk.oat HK.out.tk.on HK.out.tsm
      rw [← hq] at QP
      obtain ⟨q1, q2⟩ := q
      clear hq
      go_upto_region 21 with fail
      clear q5k h5 q6k h6 q8k h8 q9k h9
      go_wp2_with (refine wpList_load_t9 (.tmp 3) rfl P o.t (some ⟨b1, f1, none⟩) o.ln mc1 (some ⟨g, 0, none⟩) o.n cw rfl HF.out.tat rfl ?_)
      refine Calls.mono QP.out ?_
      rintro e w7 ⟨rfl, hb7⟩
      have HB7 : Hid (Below w6.heap.size w6 w7) := hb7
      have HF7 : Hid _ := K6.out w7 hb7
      clear hb7 QP HF c0
      go_wp2_with (refine wpList_load_tm (.tmp 131) rfl O 40 o.t o.la o.ln o.lc o.da o.n o.c rfl HF7.out.op.tr rfl ?_)
      refine Calls.mono (QR.out w7 HB7.out) ?_
      rintro e w8 ⟨rfl, hb8⟩
      have HB8 : Hid (Below w6.heap.size w6 w8) := bthen HB7.out hb8
      have qa : ((q1 : Int) == (q1 : Int)) = true := by simp
      have qb : (q2 == q2) = true := by simp
      clear hb8 QR HF7
      go_wp2
      go_meet
      exact ⟨rfl, HB8⟩
    have q9k : (o.kind == 9) = false := by simpa using h9
    by_cases h10 : o.kind = 10
    · have q10k : (o.kind == 10) = true := by rw [h10]; rfl
      have HF : Hid _ := K6.out w6 (Below.refl _ _)
      have QP : Hid _ := clamp_any o.t (some ⟨b1, f1, none⟩) o.ln mc1 ps1 (some ⟨g, 0, none⟩) o.n cw o.N w6 HPM.out.1 HF.out.tk.oat HK.out.tln (small_vals HF.out.l1.vs HK.out.tsm)
      have cn := HF.out.op.cn
      go_upto_region 25 with fail
      clear q5k h5 q6k h6 q8k h8 q9k h9 q10k h10
      go_wp2_with (refine wpList_load_t9 (.tmp 3) rfl P o.t (some ⟨b1, f1, none⟩) o.ln mc1 (some ⟨g, 0, none⟩) o.n cw rfl HF.out.tat rfl ?_)
      refine Calls.mono QP.out ?_
      rintro e w7 ⟨G, qs, rfl, hcl⟩
      have hb7 : Below w6.heap.size w6 w7 := hcl.bel
      have HC7 : Hid (OptsAt w7 (some ⟨G, 0, none⟩) qs ∧ qs.length = o.ln ∧ vals qs = (vals o.os).map (L4.clO (synB o.t.fl) o.N.toNat)) := by
        refine ⟨hcl.opts, hcl.pl, ?_⟩
        rw [hcl.vs, HF.out.l1.vs, List.take_of_length_le (by unfold vals; rw [List.length_map, HK.out.tk.ol]; exact Nat.le_refl _)]
      have b8 : Below w7.heap.size w7 (w7.alloc (.cells (tC t9z none 0 0 none 0 0) 33)) := (Below.refl _ _).alloc (Nat.le_refl _) _
      obtain ⟨w8, hw8⟩ : ∃ w8, w8 = w7.alloc (.cells (tC t9z none 0 0 none 0 0) 33) := ⟨_, rfl⟩
      obtain ⟨O8, hO8⟩ : ∃ O8, O8 = w7.heap.size := ⟨_, rfl⟩
      have HNB : Hid (TAt w8 O8 t9z none 0 0 none 0 0) := by rw [hw8, hO8]; exact tAt_new _ _ _ _ _ _ _ _
      rw [← hw8] at b8
      have HW8 : Hid (w7.alloc (.cells #[.int .i64 0, .int .i64 0, .int .i64 0, .int .i64 0, .int .i64 0, .int .i64 0, .int .i64 0, .slice none 0 0, .slice none 0 0] 33) = w8 ∧ w7.heap.size = O8) := ⟨hw8.symm, hO8.symm⟩
      have HB7 : Hid (Below w6.heap.size w6 w7 ∧ Below w7.heap.size w7 w8) := ⟨hb7, b8⟩
      clear hcl hb7 b8 hw8 hO8 QP HF cn c0
      go_wp2_with (refine wpList_store_t9 (.tmp 23) (.tmp 149) rfl rfl O8 t9z none 0 0 none 0 0 o.t (some ⟨G, 0, none⟩) o.ln o.ln (some ⟨g, 0, none⟩) o.n cw (by rw [← HW8.out.2]; rfl) rfl (by have h := HNB.out; rw [← HW8.out.1] at h; exact h) rfl ?_)
      rw [HW8.out.1, HW8.out.2]
      intro w9 hR9 k9
      have hb79 : Below w7.heap.size w7 w9 := HB7.out.2.trans (k9.below (fun q s => by have e : q = O8 := s; have := HW8.out.2; omega) HB7.out.2.size)
      have HB9 : Hid (Below w6.heap.size w6 w9) := bthen HB7.out.1 hb79
      have HR9 : Hid (TAt w9 O8 o.t (some ⟨G, 0, none⟩) o.ln o.ln (some ⟨g, 0, none⟩) o.n cw) := hR9
      have HO9 : Hid (OptsAt w9 (some ⟨G, 0, none⟩) qs) := HC7.out.1.old hb79
      clear hR9 k9 hb79 HNB HW8 HB7
      go_upto_region 26 with fail
      refine MixH.start (fun A => Below w9.heap.size w9 A) (by kernel_rfl) ?_
      obtain ⟨wA, hwA⟩ : ∃ wA, wA = w9.drew := ⟨_, rfl⟩
      have hS : Below w9.heap.size w9 wA := by rw [hwA]; exact (Below.refl _ _).drew
      rw [← hwA]
      clear hwA
      refine MixH.takes [false, true, false, true] 6 (by kernel_rfl) (by kernel_rfl) (by decide) (by kernel_rfl) hS (fun K hK => ?_)
      simp only [Mix.pick]
      repeat (go_big_quiet_step (fail))
      refine wpQuiet_nil (hK _ ?_)
      clear hK K
      refine MixH.take 5 0 _ (.agg (tC o.t (some ⟨G, 0, none⟩) o.ln o.ln (some ⟨g, 0, none⟩) o.n cw)) rfl (by kernel_rfl) (by kernel_rfl) (by kernel_rfl) (by kernel_rfl) (yields_t9x (.tmp 23) rfl O8 o.t (some ⟨G, 0, none⟩) o.ln o.ln (some ⟨g, 0, none⟩) o.n cw rfl rfl (fun A hA => TAt.below HR9.out hA)) hS (fun a' ha => ?_)
      simp only [Act.put, List.setIfInBounds_toArray, List.set_cons_succ, List.set_cons_zero] at ha
      subst ha
      refine MixH.take 4 2 _ (.agg (tC o.t o.la o.ln o.lc o.da o.n o.c)) rfl (by kernel_rfl) (by kernel_rfl) (by kernel_rfl) (by kernel_rfl) (yields_tm (.tmp 151) rfl O 40 o.t o.la o.ln o.lc o.da o.n o.c rfl rfl (fun A hA => (K6.out A (bthen HB9.out hA)).op.tr)) hS (fun a' ha => ?_)
      simp only [Act.put, List.setIfInBounds_toArray, List.set_cons_succ, List.set_cons_zero] at ha
      subst ha
      refine MixH.take 3 4 _ (.int .i64 o.N) rfl (by kernel_rfl) (by kernel_rfl) (by kernel_rfl) (by kernel_rfl) (yields_int (.tmp 153) rfl ⟨O, 50, none⟩ _ rfl rfl (fun A hA => (K6.out A (bthen HB9.out hA)).op.cn)) hS (fun a' ha => ?_)
      simp only [Act.put, List.setIfInBounds_toArray, List.set_cons_succ, List.set_cons_zero] at ha
      subst ha
      refine MixH.one [false, false, false, false, false, true] 2 5 _ rfl rfl (by kernel_rfl) (by kernel_rfl) (fun K hK => ?_)
      simp only [Mix.pick]
      go_wp2_with fail
      refine Calls.mono (rclamp_any o.t o.la o.ln o.lc o.os o.da o.n o.c o.N wA HK.out.tk.ol (K6.out wA (bthen HB9.out hS)).ok.tk.oat HK.out.tln HK.out.tsm (K6.out wA (bthen HB9.out hS)).ok.tk.d) ?_
      rintro ex wB ⟨lb, lc2, db, dc, rs, rfl, hbB, hrl, hrv, hro, hrd⟩
      replace hS : Below w9.heap.size w9 wB := bthen hS hbB
      have QS : Hid _ := sameT_true o.t (some ⟨G, 0, none⟩) lb o.ln o.ln lc2 qs rs (some ⟨g, 0, none⟩) db o.n cw dc wB (HO9.out.old hS) hro HC7.out.2.1 (HC7.out.2.2.trans hrv.symm) HK.out.tk.on (K6.out wB (bthen HB9.out hS)).tk.d hrd
      clear hbB hrl hrv hro hrd
      go_wp2
      refine ⟨rfl, hK _ _ hS ?_⟩
      clear hK K
      refine MixH.one [false, false, false, false, false, false, true] 1 6 _ rfl rfl (by kernel_rfl) (by kernel_rfl) (fun K hK => ?_)
      simp only [Mix.pick]
      go_wp2_with fail
      refine Calls.mono QS.out ?_
      rintro ex wC ⟨rfl, hbC⟩
      replace hS : Below w9.heap.size w9 wC := bthen hS hbC
      clear hbC QS
      go_wp2
      refine ⟨rfl, hK _ _ hS ?_⟩
      clear hK K
      refine MixH.takes [false, false, false, false, false, false, false, true] 0 (by kernel_rfl) (by kernel_rfl) (by decide) (by kernel_rfl) hS (fun K hK => ?_)
      simp only [Mix.pick]
      repeat (go_big_quiet_step (fail))
      refine wpQuiet_nil (hK _ ?_)
      clear hK K
      refine MixH.done (by kernel_rfl) ?_
      have HEND : Hid (Below w6.heap.size w6 wC) := bthen HB9.out hS
      go_wp2
      go_meet
      exact ⟨rfl, HEND⟩
    have q10k : (o.kind == 10) = false := by simpa using h10
    clear h5 h6 h8 h9 h10
    go_wp2
    go_meet
    exact ⟨rfl, Below.refl _ _⟩
end Go.Proofs.YtfoeepbndfnifaaGreatDoor
namespace Go.Proofs.YtfoeepbndfnifaaGreatDoor
open Go.RowKit
open L4 (U9 T9)
def opz : Cl9 := ⟨0, 0, fun _ => 0, 0, fun _ => 0, none, 0, 0, [], u9z, none, 0, 0, t9z, none, 0, 0, [], none, 0, 0, none, 0, 0, [], 0⟩
set_option maxRecDepth 100000 in
theorem wpList_alloc_op {ops : Array Oper} {rest : List Oper} {o : Oper} {a : Act} {w : World} {Q : Exit → Act → World → Prop} (ho : o.op = .alloc 84) (hw : Region.wanted o (yielded ops a.tmps) = true)
    (h : wpList Tryz.prog ops Q rest (a.put o.dst (.pointer (some ⟨w.heap.size, 0, none⟩))) (w.alloc (.cells opz.cells.toArray 84))) : wpList Tryz.prog ops Q (o :: rest) a w := by
  refine wpList_step fun K hK => ?_
  rw [if_pos hw]
  have hrun : (execOp a.eval o).run Tryz.prog w = .ok (.value (.pointer (some ⟨w.heap.size, 0, none⟩))) (w.alloc (.cells opz.cells.toArray 84)) := by
    obtain ⟨dst, op, type, pos, after, guard⟩ := o
    simp only at ho
    subst ho
    simp only [execOp]
    go_simp
    rfl
  unfold Oper.wp
  rw [hrun]
  exact hK _ _ h
theorem wpList_store_op {ops : Array Oper} {rest : List Oper} {p : Oper} {a : Act} {w : World} {Q : Exit → Act → World → Prop} (x y : Operand) (ho : p.op = .store 84 x y) (hd : p.dst = none) (O : Nat) (o o' : Cl9) (hx : a.eval x = .pointer (some ⟨O, 0, none⟩)) (hy : a.eval y = .agg o'.cells.toArray) (hb : OpAt w O o)
    (hw : Region.wanted p (yielded ops a.tmps) = true) (hh : ∀ w', OpAt w' O o' → Ch (fun q => q = O) w w' → wpList Tryz.prog ops Q rest a w') : wpList Tryz.prog ops Q (p :: rest) a w := by
  refine wpList_step fun K hK => ?_
  rw [if_pos hw]
  refine wp_store_row 84 x y ho O o'.cells.toArray hx hy _ o.cells.toArray hb Tryz.sizeOp rfl (by simp [Cl9.cells, ipCells, uC, tC, Value.oneCell']) (hK _ _ ?_)
  rw [hd]
  refine hh _ (setRow_heap w O _ _ _ _ hb) ⟨rfl, rfl, rfl, ?_, ?_⟩
  · simp [World.setRow]
  · intro k hk hne
    simp only [World.setRow]
    rw [Array.getElem?_modify, if_neg (fun e => hne e.symm)]
theorem stored_below {w w5 : World} {X : Obj} (k5 : Ch (fun q => q = w.heap.size) (w.alloc X) w5) : Below w.heap.size w w5 :=
  ((Below.refl _ _).alloc (Nat.le_refl _) X).trans (k5.below (fun q e => by have e' : q = w.heap.size := e; omega) (by simp))
set_option maxHeartbeats 6400000 in
set_option maxRecDepth 100000 in
theorem plays_any (w : World) (hw : Tabs w) (a : Option Addr) (n cap : Nat) (rs : List Cl9) (hn : rs.length = n) (hr : ListG 51 Cl9.cells (Cl9.Ok w) w a rs) (hm : n ≤ 1048576) (lo hi : Int) :
    Calls Tryz.prog 8 #[.slice a n cap, .int .i64 lo, .int .i64 hi] w fun e w' => e = .returned (.bool true) ∧ Below w.heap.size w w' := by
  have HN : Hid (rs.length = n) := hn
  have HR : Hid (ListG 51 Cl9.cells (Cl9.Ok w) w a rs) := hr
  have HWID : Hid (∀ A, Below w.heap.size w A → Tabs A) := fun A hA => hw.old hA
  have QS : Hid _ := started_any w hw
  clear hn hr hw
  go_enter Tryz.func8, Tryz.ntmps8
  go_wp2_with fail
  refine Calls.mono QS.out ?_
  rintro e w1 ⟨rfl, bel1⟩
  clear QS
  go_wp2
  go_loopw [7, 8] (fun b ix wr => ∃ k : Nat, b = .bool true ∧ ix = .int .i64 k ∧ k ≤ n ∧ Hid (Below w.heap.size w wr)) (fun _ ix _ => n - (intOf ix).toNat)
  case atStart => exact ⟨0, rfl, rfl, Nat.zero_le _, bel1⟩
  case round =>
    obtain ⟨k, rfl, rfl, hk, HBE⟩ := hrel
    by_cases hlt : k < n
    · obtain ⟨o, hok⟩ : ∃ o, rs[k]? = some o := ⟨_, List.getElem?_eq_getElem (by rw [HN.out]; exact hlt)⟩
      obtain ⟨hoo, b, off, rfl, hbl, hc⟩ := HR.out.at k o hok
      have HRG : Hid (wr.rangeAt b (off + k * 51) o.cells) := fun j v hj => by
        have h51 : j < 51 := (List.getElem?_eq_some_iff.1 hj).1
        exact (HBE.out.cell (p := ⟨b, off + k * 51 + j, none⟩) hbl).trans ((hc j h51).trans hj)
      have HOK : Hid (∀ A, Below w.heap.size w A → o.Ok A) := fun A hA => hoo.old hA
      have j0 : (0 : Int) ≤ (k : Int) := by omega
      have j1 : (k : Int) < (n : Int) := by omega
      have j2 : ((k : Int)).toNat = k := by omega
      have wk : IntKind.i64.wrap ((k : Int) + 1) = (k : Int) + 1 := by rw [IntKind.wrap_i64]; omega
      clear hok hoo hc hbl
      go_upto_region 6 with (first | (refine wpList_load_opm _ rfl b (off + k * 51) o rfl HRG.out rfl ?_) | (refine wpList_alloc_op rfl rfl ?_) | (refine wpList_store_op (.tmp 9) (.tmp 23) rfl rfl wr.heap.size opz o rfl rfl (opAt_new _ _) rfl ?_))
      intro w2 hP2 k2
      have sb2 := stored_below k2
      have bel2 := bthen HBE.out sb2
      obtain ⟨O, hO⟩ : ∃ O, O = wr.heap.size := ⟨_, rfl⟩
      rw [← hO] at hP2 ⊢
      have HP2 : Hid (OpAt w2 O o) := hP2
      have c0 := hP2.c0
      obtain ⟨kd, hkd⟩ : ∃ kd, kd = o.kind := ⟨_, rfl⟩
      rw [← hkd] at c0
      have HB2 : Hid (Below w.heap.size w w2) := bel2
      clear hP2 k2 sb2 hO hkd HRG HBE
      by_cases hlo : kd < lo
      · go_wp2
        go_roundw
        case rel => exact ⟨k + 1, rfl, by go_num, by omega, HB2⟩
        case measure => simp [intOf]; omega
      by_cases hhi : hi < kd
      · go_wp2
        go_roundw
        case rel => exact ⟨k + 1, rfl, by go_num, by omega, HB2⟩
        case measure => simp [intOf]; omega
      have QB : Hid _ := bytes_any o w2 (HWID.out w2 bel2) (HOK.out w2 bel2)
      have QU : Hid _ := udps_any o w2 (HWID.out w2 bel2) (HOK.out w2 bel2)
      have QT : Hid _ := tcps_any o w2 (HWID.out w2 bel2) (HOK.out w2 bel2)
      clear bel2
      by_cases k1q : kd = 1
      · subst k1q
        go_wp2_with (first | (refine wpList_load_op _ rfl O o rfl HP2.out rfl ?_))
        refine Calls.mono QB.out ?_
        rintro e w3 ⟨rfl, hb3⟩
        have HB3 : Hid (Below w.heap.size w w3) := bthen HB2.out hb3
        clear hb3
        go_wp2
        go_roundw
        case rel => exact ⟨k + 1, rfl, by go_num, by omega, HB3⟩
        case measure => simp [intOf]; omega
      have f1 : (kd == 1) = false := by rw [beq_eq_false_iff_ne]; exact k1q
      by_cases k4q : kd = 4
      · subst k4q
        go_wp2_with (first | (refine wpList_load_op _ rfl O o rfl HP2.out rfl ?_))
        refine Calls.mono QB.out ?_
        rintro e w3 ⟨rfl, hb3⟩
        have HB3 : Hid (Below w.heap.size w w3) := bthen HB2.out hb3
        clear hb3
        go_wp2
        go_roundw
        case rel => exact ⟨k + 1, rfl, by go_num, by omega, HB3⟩
        case measure => simp [intOf]; omega
      have f4 : (kd == 4) = false := by rw [beq_eq_false_iff_ne]; exact k4q
      by_cases k7q : kd = 7
      · subst k7q
        go_wp2_with (first | (refine wpList_load_op _ rfl O o rfl HP2.out rfl ?_))
        refine Calls.mono QB.out ?_
        rintro e w3 ⟨rfl, hb3⟩
        have HB3 : Hid (Below w.heap.size w w3) := bthen HB2.out hb3
        clear hb3
        go_wp2
        go_roundw
        case rel => exact ⟨k + 1, rfl, by go_num, by omega, HB3⟩
        case measure => simp [intOf]; omega
      have f7 : (kd == 7) = false := by rw [beq_eq_false_iff_ne]; exact k7q
      by_cases k2q : kd = 2
      · subst k2q
        go_wp2_with (first | (refine wpList_load_op _ rfl O o rfl HP2.out rfl ?_))
        refine Calls.mono QU.out ?_
        rintro e w3 ⟨rfl, hb3⟩
        have HB3 : Hid (Below w.heap.size w w3) := bthen HB2.out hb3
        clear hb3
        go_wp2
        go_roundw
        case rel => exact ⟨k + 1, rfl, by go_num, by omega, HB3⟩
        case measure => simp [intOf]; omega
      have f2 : (kd == 2) = false := by rw [beq_eq_false_iff_ne]; exact k2q
      by_cases k3q : kd = 3
      · subst k3q
        go_wp2_with (first | (refine wpList_load_op _ rfl O o rfl HP2.out rfl ?_))
        refine Calls.mono QU.out ?_
        rintro e w3 ⟨rfl, hb3⟩
        have HB3 : Hid (Below w.heap.size w w3) := bthen HB2.out hb3
        clear hb3
        go_wp2
        go_roundw
        case rel => exact ⟨k + 1, rfl, by go_num, by omega, HB3⟩
        case measure => simp [intOf]; omega
      have f3 : (kd == 3) = false := by rw [beq_eq_false_iff_ne]; exact k3q
      go_wp2_with (first | (refine wpList_load_op _ rfl O o rfl HP2.out rfl ?_))
      refine Calls.mono QT.out ?_
      rintro e w3 ⟨rfl, hb3⟩
      have HB3 : Hid (Below w.heap.size w w3) := bthen HB2.out hb3
      clear hb3
      go_wp2
      go_roundw
      case rel => exact ⟨k + 1, rfl, by go_num, by omega, HB3⟩
      case measure => simp [intOf]; omega
    · have hni : ¬ ((k : Int) < (n : Int)) := by omega
      clear hlt
      go_wp2
      go_ret
      exact ⟨rfl, HBE.out⟩
set_option maxRecDepth 100000 in
theorem l4Udp.walk (w : World) (hT : Tabs w) (a : Option Addr) (n cap : Nat) (rs : List Cl9) (hn : rs.length = n) (hr : ListG 51 Cl9.cells (Cl9.Ok w) w a rs) (hm : n ≤ 1048576) :
    Calls Tryz.prog 3 #[.slice a n cap] w fun e w' => e = .returned (.bool true) ∧ Below w.heap.size w w' := by
  have Q : Hid _ := plays_any w hT a n cap rs hn hr hm 1 3
  clear hT hn hr
  go_enter Tryz.func3, Tryz.ntmps3
  go_wp2_with fail
  refine Calls.mono Q.out ?_
  rintro e w1 ⟨rfl, b1⟩
  go_wp2
  go_ret
  exact ⟨rfl, b1⟩
set_option maxRecDepth 100000 in
theorem l4Tcp.walk (w : World) (hT : Tabs w) (a : Option Addr) (n cap : Nat) (rs : List Cl9) (hn : rs.length = n) (hr : ListG 51 Cl9.cells (Cl9.Ok w) w a rs) (hm : n ≤ 1048576) :
    Calls Tryz.prog 4 #[.slice a n cap] w fun e w' => e = .returned (.bool true) ∧ Below w.heap.size w w' := by
  have Q : Hid _ := plays_any w hT a n cap rs hn hr hm 4 6
  clear hT hn hr
  go_enter Tryz.func4, Tryz.ntmps4
  go_wp2_with fail
  refine Calls.mono Q.out ?_
  rintro e w1 ⟨rfl, b1⟩
  go_wp2
  go_ret
  exact ⟨rfl, b1⟩
set_option maxRecDepth 100000 in
theorem l4Options.walk (w : World) (hT : Tabs w) (a : Option Addr) (n cap : Nat) (rs : List Cl9) (hn : rs.length = n) (hr : ListG 51 Cl9.cells (Cl9.Ok w) w a rs) (hm : n ≤ 1048576) :
    Calls Tryz.prog 5 #[.slice a n cap] w fun e w' => e = .returned (.bool true) ∧ Below w.heap.size w w' := by
  have Q : Hid _ := plays_any w hT a n cap rs hn hr hm 7 10
  clear hT hn hr
  go_enter Tryz.func5, Tryz.ntmps5
  go_wp2_with fail
  refine Calls.mono Q.out ?_
  rintro e w1 ⟨rfl, b1⟩
  go_wp2
  go_ret
  exact ⟨rfl, b1⟩
set_option maxRecDepth 100000 in
theorem l4Plays.walk (w : World) (hT : Tabs w) (a : Option Addr) (n cap : Nat) (rs : List Cl9) (hn : rs.length = n) (hr : ListG 51 Cl9.cells (Cl9.Ok w) w a rs) (hm : n ≤ 1048576) :
    Calls Tryz.prog 6 #[.slice a n cap] w fun e w' => e = .returned (.bool true) ∧ Below w.heap.size w w' := by
  have Q : Hid _ := plays_any w hT a n cap rs hn hr hm 1 10
  clear hT hn hr
  go_enter Tryz.func6, Tryz.ntmps6
  go_wp2_with fail
  refine Calls.mono Q.out ?_
  rintro e w1 ⟨rfl, b1⟩
  go_wp2
  go_ret
  exact ⟨rfl, b1⟩
end Go.Proofs.YtfoeepbndfnifaaGreatDoor
