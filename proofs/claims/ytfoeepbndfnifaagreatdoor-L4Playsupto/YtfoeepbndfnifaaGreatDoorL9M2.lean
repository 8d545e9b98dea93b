/-
  What is written, in one form for taken and refused; rows as lists of bytes; Clamp's options.
-/
/-
  The document's own CheckUdp, summed, tells, of layer 9.
-/
/-
  The document's own summed and PutUdp, of layer 9.
-/
/-
  The document's own PutTcpOptions and CheckTcp, of layer 9.
-/
/-
  The document's own PutTcp, of layer 9.
-/
import Derived.Test.YtfoeepbndfnifaaGreatDoorL9M0
import Derived.Test.YtfoeepbndfnifaaGreatDoorL9M1
namespace Go.Proofs.YtfoeepbndfnifaaGreatDoor
open Go.RowKit
open L4 (U9 T9)
theorem own_dn {w w' : World} (hb : Below w.heap.size w w') {B : Nat} {t : TypeId} {sz : Nat} {v : Value} {n : Nat} {xs : List Value} (h : w.ownsRow B t sz v n xs) : w'.ownsRow B t sz v n xs :=
  (Ch.ofBelow (S := fun _ => False) hb).owns h (fun _ _ q => q.elim)
def wU9 (V U : Int) (x y : Nat → Nat) (u : U9) (n : Nat) : List Nat := if L4.uPutE (psOk V U x y) V u = 0 then L4.uSer u (psL V U x y 17 ((8 + n : Nat) : Int)) else []
def wT9 (V U : Int) (x y : Nat → Nat) (t : T9) (n : Nat) : List Nat := if L4.tPutE (psOk V U x y) t = 0 then L4.tSer t (psL V U x y 6 ((20 + (I4.putO t.os).length + n : Nat) : Int)) else []
def wO9 (os : List OpV) : List Nat := if L4.tPutOk (vals os) then I4.putO (vals os) else []
abbrev Wrt (w : World) (l : List Nat) (v : Value) (w' : World) : Prop := ∃ va, v = .slice va l.length l.length ∧ w'.ownsRow w.heap.size 5 1 (.slice va l.length l.length) l.length ((toI l).map (Value.int .u8))
theorem uE_ok {V U : Int} {x y : Nat → Nat} {u : U9} (h : L4.uPutE (psOk V U x y) V u = 0) : L4.uChk V u = 0 := by
  unfold L4.uPutE at h
  cases hp : psOk V U x y with
  | true => rw [hp, if_pos rfl] at h; exact h
  | false => rw [hp] at h; cases h
theorem tE_ok {V U : Int} {x y : Nat → Nat} {t : T9} (h : L4.tPutE (psOk V U x y) t = 0) : L4.tChk t = 0 := by
  unfold L4.tPutE at h
  cases hp : psOk V U x y with
  | true => rw [hp, if_pos rfl] at h; exact h
  | false => rw [hp] at h; cases h
theorem wU9_ok (V U : Int) (x y : Nat → Nat) {u : U9} {w : World} {da : Option Addr} {n c : Nat} (k : DOk w u.d da n c) : (∀ z ∈ wU9 V U x y u n, z < 256) ∧ (wU9 V U x y u n).length ≤ 65535 := by
  unfold wU9
  split
  · rename_i h
    have h1 := uE_ok h
    exact ⟨L4.uSer_256 u _ h1 k.d256, by rw [L4.uSer_len]; exact (L4.uChk_zero h1).2.2.2.2⟩
  · exact ⟨by simp, by simp⟩
theorem wT9_ok (V U : Int) (x y : Nat → Nat) {t : T9} {w : World} {la : Option Addr} {ln : Nat} {os : List OpV} {da : Option Addr} {n c : Nat} (k : TOk w t la ln os da n c) : (∀ z ∈ wT9 V U x y t n, z < 256) ∧ (wT9 V U x y t n).length ≤ 65535 := by
  unfold wT9
  split
  · rename_i h
    have h1 := tE_ok h
    exact ⟨tSer_256 k h1 _, by rw [L4.tSer_len]; exact (L4.tChk_zero h1).2.2⟩
  · exact ⟨by simp, by simp⟩
theorem wO9_ok {w : World} {la : Option Addr} {os : List OpV} (h : OptsAt w la os) : (∀ z ∈ wO9 os, z < 256) ∧ (wO9 os).length ≤ 65535 := by
  unfold wO9
  split
  · exact ⟨put_256 (vals os) (opts_256 h), by have := (I4.put_len (vals os)).1; omega⟩
  · exact ⟨by simp, by simp⟩
theorem putU_v (V U : Int) (x y : Nat → Nat) (u : U9) (da : Option Addr) (n c : Nat) (w : World) (hw : UW w) (k : DOk w u.d da n c) (hx : ∀ i, i < 16 → x i < 256) (hy : ∀ i, i < 16 → y i < 256) :
    Calls Tryz.prog 14 #[.agg (ipCells V x), .agg (ipCells U y), .agg (uC u da n c)] w fun e w' => ∃ v er, e = .returned (.tuple #[v, .int .i64 er]) ∧ Below w.heap.size w w' ∧ Wrt w (wU9 V U x y u n) v w' := by
  refine (putU_any V U x y u da n c w hw k hx hy).mono ?_
  rintro e w' ⟨v, er, rfl, her, hb, hr⟩
  refine ⟨v, _, rfl, hb, ?_⟩
  rcases hr with ⟨h0, g, rfl, ho⟩ | ⟨h0, rfl⟩
  · have e1 : wU9 V U x y u n = L4.uSer u (psL V U x y 17 ((8 + n : Nat) : Int)) := by unfold wU9; rw [if_pos (by rw [← her]; exact h0)]
    have e2 : (wU9 V U x y u n).length = 8 + n := by rw [e1, L4.uSer_len, k.dl]
    exact ⟨some ⟨g, 0, none⟩, by rw [e2], by rw [e2, e1]; exact ho⟩
  · have e1 : wU9 V U x y u n = [] := by unfold wU9; rw [if_neg (by rw [← her]; exact h0)]
    rw [Wrt, e1]
    exact ⟨none, rfl, World.ownsRow_nil _ _ _ _⟩
theorem putT_v (V U : Int) (x y : Nat → Nat) (t : T9) (la : Option Addr) (ln lc : Nat) (os : List OpV) (da : Option Addr) (n c : Nat) (w : World) (hw : TW w) (hlw : LW w) (k : TOk w t la ln os da n c) (hx : ∀ i, i < 16 → x i < 256) (hy : ∀ i, i < 16 → y i < 256) :
    Calls Tryz.prog 15 #[.agg (ipCells V x), .agg (ipCells U y), .agg (tC t la ln lc da n c)] w fun e w' => ∃ v er, e = .returned (.tuple #[v, .int .i64 er]) ∧ Below w.heap.size w w' ∧ Wrt w (wT9 V U x y t n) v w' := by
  refine (putT_any V U x y t la ln lc os da n c w hw hlw k hx hy).mono ?_
  rintro e w' ⟨v, er, rfl, her, hb, hr⟩
  refine ⟨v, _, rfl, hb, ?_⟩
  rcases hr with ⟨h0, g, rfl, ho⟩ | ⟨h0, rfl⟩
  · have e1 : wT9 V U x y t n = L4.tSer t (psL V U x y 6 ((20 + (I4.putO t.os).length + n : Nat) : Int)) := by unfold wT9; rw [if_pos (by rw [← her]; exact h0)]
    have e2 : (wT9 V U x y t n).length = 20 + (I4.putO t.os).length + n := by rw [e1, L4.tSer_len, k.d.dl]
    exact ⟨some ⟨g, 0, none⟩, by rw [e2], by rw [e2, e1]; exact ho⟩
  · have e1 : wT9 V U x y t n = [] := by unfold wT9; rw [if_neg (by rw [← her]; exact h0)]
    rw [Wrt, e1]
    exact ⟨none, rfl, World.ownsRow_nil _ _ _ _⟩
theorem putO_v (la : Option Addr) (n cap : Nat) (os : List OpV) (w : World) (hd : LW w) (hn : os.length = n) (ho : OptsAt w la os) (hnn : n ≤ 1048576) :
    Calls Tryz.prog 16 #[.slice la n cap] w fun e w' => ∃ v er, e = .returned (.tuple #[v, .int .i64 er]) ∧ Below w.heap.size w w' ∧ Wrt w (wO9 os) v w' := by
  refine (tput_any la n cap os w hd hn ho (by omega)).mono ?_
  rintro e w' ⟨v, rfl, hb, hr⟩
  refine ⟨v, _, rfl, hb, ?_⟩
  rcases hr with ⟨h0, g, rfl, ho⟩ | ⟨h0, rfl⟩
  · have e1 : wO9 os = I4.putO (vals os) := by unfold wO9; rw [if_pos h0]
    rw [Wrt, e1]
    exact ⟨some ⟨g, 0, none⟩, rfl, ho⟩
  · have e1 : wO9 os = [] := by unfold wO9; rw [h0]; rfl
    rw [Wrt, e1]
    exact ⟨none, rfl, World.ownsRow_nil _ _ _ _⟩
theorem own_dok {w : World} {B n c : Nat} {a : Option Addr} {l : List Nat} (h : w.ownsRow B 5 1 (.slice a n c) n ((toI l).map (Value.int .u8))) (h256 : ∀ z ∈ l, z < 256) (hn : n ≤ 1099511627776) : DOk w l a n c := by
  obtain ⟨h1, h2, h3⟩ := owns_seg_at h
  exact ⟨OwnB.len h, h1, h256, h2, h3, hn⟩
theorem boxed_ch {S : Nat → Prop} {w w' : World} {B : Nat} {V : Int} {x : Nat → Nat} (h : Boxed w B V x) (c : Ch S w w') (hS : ¬ S B) : Boxed w' B V x :=
  ⟨c.cell h.ver hS, fun j hj => c.cell (h.byte j hj) hS⟩
theorem ClS.all' {w wr : World} {os ps : List OpV} {syn : Bool} {m G k : Nat} (h : ClS w os syn m G k ps wr) (hk : os.length = k) : vals ps = (vals os).map (L4.clO syn m) := by
  rw [h.vs, List.take_of_length_le (by simp [vals, hk])]
theorem ClS.small' {w wr : World} {os ps : List OpV} {syn : Bool} {m G k : Nat} (h : ClS w os syn m G k ps wr) (hk : os.length = k) (hs : ∀ o ∈ os, o.d.length ≤ 1048576) : ∀ o ∈ ps, o.d.length ≤ 1048576 := by
  intro p hp
  have e : p.val ∈ vals ps := List.mem_map_of_mem hp
  rw [h.all' hk] at e
  obtain ⟨q, hq, e2⟩ := List.mem_map.1 e
  obtain ⟨o, ho, rfl⟩ := List.mem_map.1 hq
  have := (L4.clO_kind syn m o.val).2
  have h3 := hs o ho
  have e3 : p.d = (L4.clO syn m o.val).2 := congrArg Prod.snd e2.symm
  rw [e3, this]
  exact h3
end Go.Proofs.YtfoeepbndfnifaaGreatDoor
namespace Go.Proofs.YtfoeepbndfnifaaGreatDoor
open Go.RowKit
open L4 (U9 T9)
set_option maxHeartbeats 1600000 in
set_option maxRecDepth 100000 in
theorem rcheckU_any (v : Int) (u : U9) (da : Option Addr) (n c : Nat) (w : World) (hl : u.d.length = n) (hn : n ≤ 1099511627776) :
    Calls Tryz.prog 28 #[.int .i64 v, .agg (uC u da n c)] w fun e w' => e = .returned (.int .i64 ((L4.uChk v u : Nat) : Int)) ∧ Below w.heap.size w w' := by
  obtain ⟨W, hW⟩ : ∃ W, W = w.alloc (.cells (uC u da n c) 30) := ⟨_, rfl⟩
  obtain ⟨O, hO⟩ : ∃ O, O = w.heap.size := ⟨_, rfl⟩
  have bel : Below w.heap.size w W := by rw [hW]; exact (Below.refl _ _).alloc (Nat.le_refl _) _
  have hr : UAt W O u da n c := by rw [hW, hO]; exact uAt_new _ _ _ _ _
  obtain ⟨M, hM⟩ : ∃ M, M = uC u da n c := ⟨_, rfl⟩
  have HW : Hid (w.alloc (.cells M 30) = W ∧ w.heap.size = O) := ⟨by rw [hM]; exact hW.symm, hO.symm⟩
  have c0 := hr.c0
  have c1 := hr.c1
  have c2 := hr.c2
  have c3 := hr.c3
  have HL : Hid (u.d.length = n) := hl
  rw [← hM]
  clear hW hO hr hM hl
  obtain ⟨sp, hsp⟩ : ∃ sp, sp = u.sp := ⟨_, rfl⟩
  obtain ⟨dp, hdp⟩ : ∃ dp, dp = u.dp := ⟨_, rfl⟩
  obtain ⟨ns, hns⟩ : ∃ ns, ns = u.ns := ⟨_, rfl⟩
  rw [← hsp] at c0
  rw [← hdp] at c1
  rw [← hns] at c2
  have HV : Hid (L4.uChk v u = if v = 4 ∨ v = 6 then (if (L4.inB sp 65535 && L4.inB dp 65535 && !(ns && decide (v = 6))) = true then (if 65535 < 8 + n then 2 else 0) else 98) else 20) := by
    show _ = _
    unfold L4.uChk L4.uOkF
    rw [HL.out, hsp, hdp, hns]
  clear hsp hdp hns
  by_cases h46 : v = 4 ∨ v = 6
  · rw [if_pos h46] at HV
    obtain ⟨i1, hi1⟩ : ∃ i1, i1 = L4.inB sp 65535 := ⟨_, rfl⟩
    obtain ⟨i2, hi2⟩ : ∃ i2, i2 = L4.inB dp 65535 := ⟨_, rfl⟩
    rw [← hi1, ← hi2] at HV
    have Q1 : Hid _ := rout_any sp 65535 W
    have Q2 : Hid _ := rout_any dp 65535 W
    rw [← hi1] at Q1
    rw [← hi2] at Q2
    clear hi1 hi2
    have h6 : v = 4 ∨ v = 6 := h46
    cases i1 with
    | false =>
      have HE : Hid (L4.uChk v u = 98) := by rw [HV.out]; rfl
      rcases h46 with rfl | rfl <;>
      · go_enter Tryz.func28, Tryz.ntmps28
        go_upto_region 1 with fail
        rw [HW.out.1, HW.out.2]
        go_wp2_with fail
        refine Calls.mono Q1.out ?_
        rintro e wn ⟨rfl, rfl⟩
        go_wp2
        go_ret
        exact ⟨by rw [HE.out]; rfl, bel⟩
    | true =>
      cases i2 with
      | false =>
        have HE : Hid (L4.uChk v u = 98) := by rw [HV.out]; rfl
        rcases h46 with rfl | rfl <;>
        · go_enter Tryz.func28, Tryz.ntmps28
          go_upto_region 1 with fail
          rw [HW.out.1, HW.out.2]
          go_wp2_with fail
          refine Calls.mono Q1.out ?_
          rintro e wn ⟨rfl, rfl⟩
          go_wp2_with fail
          refine Calls.mono Q2.out ?_
          rintro e wn ⟨rfl, rfl⟩
          go_wp2
          go_ret
          exact ⟨by rw [HE.out]; rfl, bel⟩
      | true =>
        by_cases hn6 : ns = true ∧ v = 6
        · obtain ⟨rfl, rfl⟩ := hn6
          have HE : Hid (L4.uChk 6 u = 98) := by rw [HV.out]; rfl
          go_enter Tryz.func28, Tryz.ntmps28
          go_upto_region 1 with fail
          rw [HW.out.1, HW.out.2]
          go_wp2_with fail
          refine Calls.mono Q1.out ?_
          rintro e wn ⟨rfl, rfl⟩
          go_wp2_with fail
          refine Calls.mono Q2.out ?_
          rintro e wn ⟨rfl, rfl⟩
          go_wp2
          go_ret
          exact ⟨by rw [HE.out]; rfl, bel⟩
        · have HE : Hid (L4.uChk v u = if 65535 < 8 + n then 2 else 0) := by
            show _ = _
            rw [HV.out, if_pos]
            cases ns with
            | false => rfl
            | true =>
              have h7 : ¬ v = 6 := fun e => hn6 ⟨rfl, e⟩
              simp [h7]
          by_cases hb : 65535 < 8 + n
          · have hb' : (65535 : Int) < 8 + (n : Int) := by omega
            rw [if_pos hb] at HE
            rcases h46 with rfl | rfl <;> cases ns <;> (try (simp at hn6)) <;>
            · clear hn6
              go_enter Tryz.func28, Tryz.ntmps28
              go_upto_region 1 with fail
              rw [HW.out.1, HW.out.2]
              go_wp2_with fail
              refine Calls.mono Q1.out ?_
              rintro e wn ⟨rfl, rfl⟩
              go_wp2_with fail
              refine Calls.mono Q2.out ?_
              rintro e wn ⟨rfl, rfl⟩
              go_wp2
              go_ret
              exact ⟨by rw [HE.out]; rfl, bel⟩
          · have hb' : ¬ (65535 : Int) < 8 + (n : Int) := by omega
            rw [if_neg hb] at HE
            rcases h46 with rfl | rfl <;> cases ns <;> (try (simp at hn6)) <;>
            · clear hn6
              go_enter Tryz.func28, Tryz.ntmps28
              go_upto_region 1 with fail
              rw [HW.out.1, HW.out.2]
              go_wp2_with fail
              refine Calls.mono Q1.out ?_
              rintro e wn ⟨rfl, rfl⟩
              go_wp2_with fail
              refine Calls.mono Q2.out ?_
              rintro e wn ⟨rfl, rfl⟩
              go_wp2
              go_ret
              exact ⟨by rw [HE.out]; rfl, bel⟩
  · rw [if_neg h46] at HV
    have b4 : (v != 4) = true := by simp; exact fun e => h46 (.inl e)
    have b6 : (v != 6) = true := by simp; exact fun e => h46 (.inr e)
    clear h46
    go_enter Tryz.func28, Tryz.ntmps28
    go_upto_region 1 with fail
    rw [HW.out.1, HW.out.2]
    go_wp2
    go_ret
    exact ⟨by rw [HV.out]; rfl, bel⟩
end Go.Proofs.YtfoeepbndfnifaaGreatDoor
namespace Go.Proofs.YtfoeepbndfnifaaGreatDoor
open Go.RowKit
open L4 (U9 T9)
set_option maxHeartbeats 1600000 in
set_option maxRecDepth 100000 in
theorem rsummed_any (V U : Int) (x y : Nat → Nat) (p : Nat) (a : Option Addr) (n c : Nat) (bs : List Nat) (w : World) (hok : psOk V U x y = true) (hp : p ≤ 255) (hn : n ≤ 65535) (hx : ∀ i, i < 16 → x i < 256) (hy : ∀ i, i < 16 → y i < 256) (hd : DOk w bs a n c) :
    Calls Tryz.prog 64 #[.agg (ipCells V x), .agg (ipCells U y), .int .i64 (p : Int), .slice a n c] w fun e w' => e = .returned (.int .i64 ((65535 - S.fold (S.wv false (psL V U x y (p : Nat) (n : Nat) ++ bs)) : Nat) : Int)) ∧ Below w.heap.size w w' := by
  obtain ⟨A, hA⟩ : ∃ A, A = ipCells V x := ⟨_, rfl⟩
  obtain ⟨C, hC⟩ : ∃ C, C = ipCells U y := ⟨_, rfl⟩
  have hx1 := boxed_new w V x 27
  have hy1 := boxed_new (w.alloc (.cells (ipCells V x) 27)) U y 27
  rw [World.size_alloc] at hy1
  have hx2 := hx1.old ((Below.refl _ _).alloc (Nat.le_refl _) (.cells (ipCells U y) 27))
  clear hx1
  rw [← hA] at hx2 hy1 ⊢
  rw [← hC] at hx2 hy1 ⊢
  have bel : Below w.heap.size w ((w.alloc (.cells A 27)).alloc (.cells C 27)) := ((Below.refl _ _).alloc (Nat.le_refl _) _).alloc (by simp) _
  obtain ⟨W, hW⟩ : ∃ W, W = (w.alloc (.cells A 27)).alloc (.cells C 27) := ⟨_, rfl⟩
  rw [← hW] at hx2 hy1 bel
  obtain ⟨B, hB⟩ : ∃ B, B = w.heap.size := ⟨_, rfl⟩
  have HB : Hid (w.heap.size = B) := hB.symm
  rw [← hB] at hx2 hy1
  have HW : Hid ((w.alloc (.cells A 27)).alloc (.cells C 27) = W) := hW.symm
  have HX : Hid (∀ i, i < 16 → x i < 256) := hx
  have HY : Hid (∀ i, i < 16 → y i < 256) := hy
  have HXB : Hid (Boxed W B V x) := hx2
  have HYB : Hid (Boxed W (B + 1) U y) := hy1
  clear hW hx2 hy1 hx hy hA hC hB
  have HD : Hid (DOk w bs a n c) := hd
  have QP : Hid _ := rpseudo_any V U x y (p : Int) (n : Int) W
  obtain ⟨pb, hpb⟩ : ∃ pb, pb = psL V U x y (p : Nat) (n : Nat) := ⟨_, rfl⟩
  have HPE : Hid (psE V U x y (p : Int) (n : Int) = 0) := psE_ok hok (by simp [psIn]; omega)
  rw [← hpb, HPE.out] at QP
  rw [← hpb]
  have HP256 : Hid (∀ z ∈ pb, z < 256) := by rw [hpb]; exact psL_256 V U x y (p : Nat) (n : Nat) HX.out HY.out
  have HP40 : Hid (pb.length ≤ 40) := by rw [hpb]; exact psL_len _ _ _ _ _ _
  clear hpb hok hd
  go_enter Tryz.func64, Tryz.ntmps64
  go_upto_region 1 with fail
  rw [HB.out, HW.out]
  go_wp2_with (first | (refine wpList_load_ip (.tmp 4) rfl B V x rfl HXB.out rfl ?_) | (refine wpList_load_ip (.tmp 5) rfl (B + 1) U y rfl HYB.out rfl ?_))
  refine Calls.mono QP.out ?_
  rintro e w1 ⟨v, rfl, ho, hb1⟩
  obtain ⟨pa, pc, rfl⟩ := owns_shape ho
  have bel1 := bthen bel hb1
  have QG : Hid _ := rcheck_two (w := w1) (B := w1.heap.size) (a1 := pa) (a2 := a) (n1 := pb.length) (n2 := n) (c1 := pc) (c2 := c) (l1 := pb) (l2 := bs) rfl rfl HD.out.dl (OwnB.part ho HP256.out) (HD.out.old bel1).part (by have := HP40.out; omega)
  obtain ⟨G, hG⟩ : ∃ G : Nat, G = 65535 - S.fold (S.wv false (pb ++ bs)) := ⟨_, rfl⟩
  rw [← hG] at QG
  have HG : Hid (65535 - S.fold (S.wv false (pb ++ bs)) = G) := hG.symm
  obtain ⟨pl, hpl⟩ : ∃ pl, pl = pb.length := ⟨_, rfl⟩
  rw [← hpl] at QG ⊢
  clear QP ho hb1 hG hpl
  go_wp2_with fail
  refine Calls.mono QG.out ?_
  rintro e w2 ⟨rfl, hb2⟩
  have bel2 := bthen bel1 hb2
  clear QG hb2
  go_wp2
  go_ret
  exact ⟨by rw [HG.out]; rfl, bel2⟩

set_option maxHeartbeats 6400000 in
set_option maxRecDepth 100000 in
theorem rputU_any (V U : Int) (x y : Nat → Nat) (u : U9) (da : Option Addr) (n c : Nat) (w : World) (k : DOk w u.d da n c) (hx : ∀ i, i < 16 → x i < 256) (hy : ∀ i, i < 16 → y i < 256) :
    Calls Tryz.prog 19 #[.agg (ipCells V x), .agg (ipCells U y), .agg (uC u da n c)] w fun e w' => ∃ va vc, e = .returned (.tuple #[.slice va (wU9 V U x y u n).length vc, .int .i64 ((L4.uPutE (psOk V U x y) V u : Nat) : Int)]) ∧ Below w.heap.size w w' ∧ w'.ownsRow w.heap.size 5 1 (.slice va (wU9 V U x y u n).length vc) (wU9 V U x y u n).length ((toI (wU9 V U x y u n)).map (Value.int .u8)) := by
  obtain ⟨A, hA⟩ : ∃ A, A = ipCells V x := ⟨_, rfl⟩
  obtain ⟨C, hC⟩ : ∃ C, C = ipCells U y := ⟨_, rfl⟩
  have hx1 := boxed_new w V x 27
  have hy1 := boxed_new (w.alloc (.cells (ipCells V x) 27)) U y 27
  rw [World.size_alloc] at hy1
  have hx2 := hx1.old ((Below.refl _ _).alloc (Nat.le_refl _) (.cells (ipCells U y) 27))
  clear hx1
  rw [← hA] at hx2 hy1 ⊢
  rw [← hC] at hx2 hy1 ⊢
  obtain ⟨M, hM⟩ : ∃ M, M = uC u da n c := ⟨_, rfl⟩
  obtain ⟨W2, hW2⟩ : ∃ W2, W2 = (w.alloc (.cells A 27)).alloc (.cells C 27) := ⟨_, rfl⟩
  have s2 : W2.heap.size = w.heap.size + 1 + 1 := by rw [hW2]; simp
  have bel2 : Below w.heap.size w W2 := by rw [hW2]; exact ((Below.refl _ _).alloc (Nat.le_refl _) _).alloc (by simp) _
  rw [← hW2] at hx2 hy1
  have hru := uAt_new W2 u da n c
  have b3 : Below W2.heap.size W2 (W2.alloc (.cells M 30)) := (Below.refl _ _).alloc (Nat.le_refl _) _
  rw [← hM] at hru ⊢
  obtain ⟨W, hW⟩ : ∃ W, W = W2.alloc (.cells M 30) := ⟨_, rfl⟩
  rw [← hW] at hru b3
  have bel := bthen bel2 b3
  have HXB : Hid (Boxed W w.heap.size V x) := hx2.old b3
  have HYB : Hid (Boxed W (w.heap.size + 1) U y) := hy1.old b3
  obtain ⟨B, hB⟩ : ∃ B, B = w.heap.size := ⟨_, rfl⟩
  rw [← hB] at HXB HYB s2
  obtain ⟨O, hO⟩ : ∃ O, O = B + 1 + 1 := ⟨_, rfl⟩
  rw [s2, ← hO] at hru
  have HRU : Hid (UAt W O u da n c) := hru
  have HB : Hid (w.heap.size = B) := hB.symm
  have HO : Hid (B + 1 + 1 = O) := hO.symm
  have HW : Hid (((w.alloc (.cells A 27)).alloc (.cells C 27)).alloc (.cells M 30) = W) := by show _ = _; rw [hW, hW2]
  have HX : Hid (∀ i, i < 16 → x i < 256) := hx
  have HY : Hid (∀ i, i < 16 → y i < 256) := hy
  clear hW hW2 hx2 hy1 hx hy hA hC hB hM hO hru b3 bel2 s2
  have HD : Hid (DOk w u.d da n c) := k
  have QF : Hid _ := rfit_any V U x y W
  clear k
  cases hp : psOk V U x y with
  | false =>
    rw [hp] at QF
    have HE : Hid (L4.uPutE false V u = 20 ∧ wU9 V U x y u n = []) := ⟨rfl, by unfold wU9; rw [hp]; rfl⟩
    rw [HE.out.1, HE.out.2]
    clear hp
    go_enter Tryz.func19, Tryz.ntmps19
    go_upto_region 1 with fail
    rw [HB.out, HO.out, HW.out]
    go_wp2_with (first | (refine wpList_load_ip (.tmp 3) rfl B V x rfl HXB.out rfl ?_) | (refine wpList_load_ip (.tmp 4) rfl (B + 1) U y rfl HYB.out rfl ?_))
    refine Calls.mono QF.out ?_
    rintro e w1 ⟨rfl, hb1⟩
    have bel1 := bthen bel hb1
    clear QF hb1
    go_wp2
    go_ret2
    exact ⟨none, 0, rfl, bel1, World.ownsRow_nil _ _ _ _⟩
  | true =>
    rw [hp] at QF
    have HUE : Hid (L4.uPutE true V u = L4.uChk V u) := rfl
    rw [HUE.out]
    have HPS : Hid (psOk V U x y = true) := hp
    obtain ⟨E, hE⟩ : ∃ E, E = L4.uChk V u := ⟨_, rfl⟩
    have QC : Hid (∀ A : World, _) := fun A => rcheckU_any V u da n c A HD.out.dl HD.out.sm
    rw [← hE]
    have HE : Hid (L4.uChk V u = E) := hE.symm
    clear hp hE
    go_enter Tryz.func19, Tryz.ntmps19
    go_upto_region 1 with fail
    rw [HB.out, HO.out, HW.out]
    go_wp2_with (first | (refine wpList_load_ip (.tmp 3) rfl B V x rfl HXB.out rfl ?_) | (refine wpList_load_ip (.tmp 4) rfl (B + 1) U y rfl HYB.out rfl ?_))
    refine Calls.mono QF.out ?_
    rintro e w1 ⟨rfl, hb1⟩
    have belw1 := bthen bel hb1
    have HX1 : Hid (Boxed w1 B V x) := HXB.out.old hb1
    have HY1 : Hid (Boxed w1 (B + 1) U y) := HYB.out.old hb1
    have HU1 : Hid (UAt w1 O u da n c) := HRU.out.below hb1
    have ver := HX1.out.ver
    have QC1 : Hid _ := QC.out w1
    rw [HE.out] at QC1
    clear QF hb1 HXB HYB HRU HW HB HO bel QC
    go_wp2_with (first | (refine wpList_load_u9 (.tmp 5) rfl O u da n c rfl HU1.out rfl ?_))
    refine Calls.mono QC1.out ?_
    rintro e w2 ⟨rfl, hb2⟩
    have belw2 := bthen belw1 hb2
    have HX2 : Hid (Boxed w2 B V x) := HX1.out.old hb2
    have HY2 : Hid (Boxed w2 (B + 1) U y) := HY1.out.old hb2
    have HU2 : Hid (∀ A, Below w.heap.size w A → UAt A O u da n c → True) := fun _ _ _ => trivial
    have HUU : Hid (UAt w2 O u da n c) := HU1.out.below hb2
    clear QC1 hb2 HX1 HY1 HU1 ver HU2 belw1
    by_cases hE0 : E = 0
    case neg =>
      have HN : Hid (wU9 V U x y u n = []) := by
        show _ = _
        unfold wU9
        rw [HPS.out, if_neg]
        rw [HUE.out, HE.out]
        exact hE0
      have q0 : ((E : Int) != 0) = true := by simp; exact hE0
      clear hE0
      go_wp2
      go_ret2
      exact ⟨none, 0, by rw [HN.out]; rfl, belw2, by rw [HN.out]; exact World.ownsRow_nil _ _ _ _⟩
    case pos =>
      subst hE0
      have hz := L4.uChk_zero HE.out
      have HUL : Hid (wU9 V U x y u n = L4.uSer u (psL V U x y 17 ((8 + n : Nat) : Int))) := by
        show _ = _
        unfold wU9
        rw [HPS.out, if_pos]
        rw [HUE.out, HE.out]
      have hn : 8 + n ≤ 65535 := by have := hz.2.2.2.2; rw [HD.out.dl] at this; exact this
      obtain ⟨SP, hSP⟩ : ∃ SP : Nat, u.sp = (SP : Int) := ⟨u.sp.toNat, by omega⟩
      obtain ⟨DP, hDP⟩ : ∃ DP : Nat, u.dp = (DP : Int) := ⟨u.dp.toNat, by omega⟩
      have hSP5 : SP ≤ 65535 := by omega
      have hDP5 : DP ≤ 65535 := by omega
      have HSP : Hid (u.sp.toNat = SP ∧ u.dp.toNat = DP) := ⟨by omega, by omega⟩
      have c0 := HUU.out.c0
      have c1 := HUU.out.c1
      have c2 := HUU.out.c2
      have c3 := HUU.out.c3
      rw [hSP] at c0
      rw [hDP] at c1
      have C0 : Hid (∀ A, Below w2.heap.size w2 A → A.cell? ⟨O, 0, none⟩ = some (.int .i64 (SP : Int)) ∧ A.cell? ⟨O, 1, none⟩ = some (.int .i64 (DP : Int)) ∧ A.cell? ⟨O, 2, none⟩ = some (.bool u.ns) ∧ A.cell? ⟨O, 3, none⟩ = some (.slice da n c)) := fun A hA => ⟨(hA.cell (p := ⟨O, 0, none⟩) HUU.out.lt).trans c0, (hA.cell (p := ⟨O, 1, none⟩) HUU.out.lt).trans c1, (hA.cell (p := ⟨O, 2, none⟩) HUU.out.lt).trans c2, (hA.cell (p := ⟨O, 3, none⟩) HUU.out.lt).trans c3⟩
      clear hz hSP hDP c0 c1 c2 c3
      have Bw2 : Below w2.heap.size w2 w2 := Below.refl _ _
      obtain ⟨i0, hi, hz0, hz1, hz2⟩ := info_parts Tryz.infoByte
      have HV0 : Hid (w2.ownsRow w2.heap.size 5 1 (.slice none 0 0) 0 ((toI ([])).map (Value.int .u8))) := World.ownsRow_nil _ _ _ _
      obtain ⟨v0, hv0⟩ : ∃ v0 : Option Addr, v0 = none := ⟨_, rfl⟩
      obtain ⟨c0, hc0⟩ : ∃ c0 : Nat, c0 = 0 := ⟨_, rfl⟩
      have HV0 : Hid (w2.ownsRow w2.heap.size 5 1 (.slice v0 0 c0) 0 ((toI ([])).map (Value.int .u8))) := by rw [hv0, hc0]; exact HV0.out
      subst hv0 hc0
      have q := (C0.out w2 Bw2).1
      have QA : Hid _ := radd_any w2.heap.size (.slice none 0 0) 0 SP 2 ([]) w2 HV0.out (by omega) (by omega) (by omega) Bw2.size
      go_wp2_with fail
      refine Calls.mono QA.out ?_
      rintro e a1 ⟨vv, rfl, ho, hb⟩
      obtain ⟨v1, c1, hv⟩ := owns_shape ho
      have hv' : vv = .slice v1 2 c1 := hv
      subst hv'
      have HV1 : Hid (a1.ownsRow w2.heap.size 5 1 (.slice v1 2 c1) 2 ((toI ([] ++ byN 2 SP)).map (Value.int .u8))) := ho
      have Ba1 : Below w2.heap.size w2 a1 := Bw2.trans hb
      clear QA ho hb HV0 hv q
      have q := (C0.out a1 Ba1).2.1
      have QA : Hid _ := radd_any w2.heap.size (.slice v1 2 c1) 2 DP 2 ([] ++ byN 2 SP) a1 HV1.out (by omega) (by omega) (by omega) Ba1.size
      go_wp2_with fail
      refine Calls.mono QA.out ?_
      rintro e a2 ⟨vv, rfl, ho, hb⟩
      obtain ⟨v2, c2, hv⟩ := owns_shape ho
      have hv' : vv = .slice v2 4 c2 := hv
      subst hv'
      have HV2 : Hid (a2.ownsRow w2.heap.size 5 1 (.slice v2 4 c2) 4 ((toI (([] ++ byN 2 SP) ++ byN 2 DP)).map (Value.int .u8))) := ho
      have Ba2 : Below w2.heap.size w2 a2 := Ba1.trans hb
      clear QA ho hb HV1 hv q
      have q := (C0.out a2 Ba2).2.2.2
      have QA : Hid _ := radd_any w2.heap.size (.slice v2 4 c2) 4 (8 + n) 2 (([] ++ byN 2 SP) ++ byN 2 DP) a2 HV2.out (by omega) (by omega) (by omega) Ba2.size
      rw [show ((8 + n : Nat) : Int) = 8 + (n : Int) from by omega] at QA
      go_wp2_with fail
      refine Calls.mono QA.out ?_
      rintro e a3 ⟨vv, rfl, ho, hb⟩
      obtain ⟨v3, c3, hv⟩ := owns_shape ho
      have hv' : vv = .slice v3 6 c3 := hv
      subst hv'
      have HV3 : Hid (a3.ownsRow w2.heap.size 5 1 (.slice v3 6 c3) 6 ((toI ((([] ++ byN 2 SP) ++ byN 2 DP) ++ byN 2 (8 + n))).map (Value.int .u8))) := ho
      have Ba3 : Below w2.heap.size w2 a3 := Ba2.trans hb
      clear QA ho hb HV2 hv q
      have QA : Hid _ := radd_any w2.heap.size (.slice v3 6 c3) 6 0 2 ((([] ++ byN 2 SP) ++ byN 2 DP) ++ byN 2 (8 + n)) a3 HV3.out (by omega) (by omega) (by omega) Ba3.size
      go_wp2_with fail
      refine Calls.mono QA.out ?_
      rintro e a4 ⟨vv, rfl, ho, hb⟩
      obtain ⟨v4, c4, hv⟩ := owns_shape ho
      have hv' : vv = .slice v4 8 c4 := hv
      subst hv'
      have HV4 : Hid (a4.ownsRow w2.heap.size 5 1 (.slice v4 8 c4) 8 ((toI (((([] ++ byN 2 SP) ++ byN 2 DP) ++ byN 2 (8 + n)) ++ byN 2 0)).map (Value.int .u8))) := ho
      have Ba4 : Below w2.heap.size w2 a4 := Ba3.trans hb
      clear QA ho hb HV3 hv 
      have q := (C0.out a4 Ba4).2.2.2
      have HSG : Hid (Seg .u8 a4 da (toI u.d)) := HD.out.seg.old (belw2.trans (Ba4.mono belw2.size))
      have hb4 := Ba4.size
      go_wp2_with (first | (at_builtin; refine append_split_seg rfl (.tmp 40) (.tmp 42) 28 rfl w2.heap.size 5 i0 (.int .u8 0) 1 Tryz.underlying28 hi hz0 hz1 hz2 rfl (.slice v4 8 c4) 8 _ rfl HV4.out .u8 da n c (toI u.d) rfl (by rw [toI_len]; exact HD.out.dl) HSG.out (by unfold maxLen; omega) (by omega) hb4 ?_))
      intro vv a5 ho hq hg
      obtain ⟨v5, c5, hv⟩ := owns_shape ho
      subst hv
      have Ba5 : Below w2.heap.size w2 a5 := Ba4.grown hg hb4 (fun q hq => (HV4.out.lt q hq).1)
      have HV5 : Hid (a5.ownsRow w2.heap.size 5 1 (.slice v5 (8 + n) c5) (8 + n) ((toI (L4.uHd u 0 ++ u.d)).map (Value.int .u8))) := by
        have e : L4.uHd u 0 ++ u.d = (((([] ++ byN 2 SP) ++ byN 2 DP) ++ byN 2 (8 + n)) ++ byN 2 0) ++ u.d := by
          rw [by2 SP hSP5, by2 DP hDP5, by2 (8 + n) hn, by2 0 (by omega)]
          simp [L4.uHd, HSP.out.1, HSP.out.2, HD.out.dl]
        rw [e]
        have e2 : (toI ((((([] ++ byN 2 SP) ++ byN 2 DP) ++ byN 2 (8 + n)) ++ byN 2 0) ++ u.d)).map (Value.int .u8) = (toI (((([] ++ byN 2 SP) ++ byN 2 DP) ++ byN 2 (8 + n)) ++ byN 2 0)).map (Value.int .u8) ++ (toI u.d).map (Value.int .u8) := by simp [toI]
        rw [e2]
        exact ho
      clear ho hq hg HV4 q HSG hb4
      have q := (C0.out a5 Ba5).2.2.1
      have HFE : Hid ((wU9 V U x y u n).length = 8 + n) := by show _ = _; rw [HUL.out, L4.uSer_len, HD.out.dl]
      cases hns : u.ns with
      | true =>
        rw [hns] at q
        have HSER : Hid (wU9 V U x y u n = L4.uHd u 0 ++ u.d) := by show _ = _; rw [HUL.out, L4.uSer, L4.uSum, hns, if_pos rfl]
        clear hns
        go_wp2
        go_ret2
        refine ⟨v5, c5, ?_, belw2.trans (Ba5.mono belw2.size), ?_⟩
        · rw [HFE.out]; rfl
        · rw [HFE.out, HSER.out]; exact owns_le HV5.out belw2.size
      | false =>
        rw [hns] at q
        have HNS : Hid (u.ns = false) := hns
        have h256 : ∀ z ∈ L4.uHd u 0 ++ u.d, z < 256 := by
          intro z hz
          rcases List.mem_append.1 hz with h | h
          · have h1 := HSP.out.1
            have h2 := HSP.out.2
            have h3 := HD.out.dl
            simp only [L4.uHd, h1, h2, h3, List.mem_cons, List.not_mem_nil, or_false] at h
            rcases h with rfl | rfl | rfl | rfl | rfl | rfl | rfl | rfl <;> omega
          · exact HD.out.d256 z h
        have HX5 : Hid (Boxed a5 B V x) := HX2.out.old Ba5
        have HY5 : Hid (Boxed a5 (B + 1) U y) := HY2.out.old Ba5
        have QS : Hid _ := rsummed_any V U x y 17 v5 (8 + n) c5 (L4.uHd u 0 ++ u.d) a5 HPS.out (by omega) hn HX.out HY.out (own_dok HV5.out h256 (by omega))
        obtain ⟨Sv, hS⟩ : ∃ Sv : Nat, Sv = 65535 - S.fold (S.wv false (psL V U x y (17 : Nat) (8 + n : Nat) ++ (L4.uHd u 0 ++ u.d))) := ⟨_, rfl⟩
        rw [← hS] at QS
        have hS5 : Sv ≤ 65535 := by omega
        have HRAW : Hid (L4.uRaw u (psL V U x y 17 ((8 + n : Nat) : Int)) = Sv) := by rw [hS]; rfl
        clear hns h256 hS
        go_wp2_with (first | (refine wpList_load_ip (.tmp 3) rfl B V x rfl HX5.out rfl ?_) | (refine wpList_load_ip (.tmp 4) rfl (B + 1) U y rfl HY5.out rfl ?_))
        refine Calls.mono QS.out ?_
        rintro e a6 ⟨rfl, hb6⟩
        have Ba6 : Below w2.heap.size w2 a6 := Ba5.trans (hb6.mono Ba5.size)
        have HV6 : Hid (a6.ownsRow w2.heap.size 5 1 (.slice v5 (8 + n) c5) (8 + n) ((toI (L4.uHd u 0 ++ u.d)).map (Value.int .u8))) := own_dn hb6 HV5.out
        have HX6 : Hid (Boxed a6 B V x) := HX5.out.old hb6
        have HY6 : Hid (Boxed a6 (B + 1) U y) := HY5.out.old hb6
        clear QS hb6 HV5 HX5 HY5 q C0 HX2 HY2
        by_cases hz : Sv = 0
        · obtain ⟨s2, hs2⟩ : ∃ s2 : Nat, s2 = 65535 := ⟨_, rfl⟩
          have hs5 : s2 ≤ 65535 := by omega
          have HS2 : Hid ((65535 : Int) = (s2 : Int)) := by show _ = _; omega
          have HSUM : Hid (L4.uSum u (psL V U x y 17 ((8 + n : Nat) : Int)) = s2) := by show _ = _; rw [L4.uSum, HNS.out, if_neg (by simp), HRAW.out, L4.nz, if_pos hz, hs2]
          have q0 : ((Sv : Int) == 0) = true := by rw [hz]; rfl
          clear hz hs2
          have HSL : Hid ((L4.uHd u 0 ++ u.d).length = 8 + n) := by show _ = _; rw [List.length_append, L4.uHd_len, HD.out.dl]
          obtain ⟨g5, hg5⟩ : ∃ g, v5 = some ⟨g, 0, none⟩ := by
            rcases HV6.out.2 with ⟨_, e2⟩ | ⟨g, cap, cur, e1, _⟩
            · omega
            · simp only [Value.slice.injEq, true_and] at e1
              exact ⟨g, e1.1⟩
          subst hg5
          obtain ⟨z6, k6⟩ : ∃ z, a6.cell? ⟨g5, 6, none⟩ = some z := by
            rw [HV6.out.cellAt 6 (by omega)]
            exact ⟨_, List.getElem?_eq_getElem (by rw [List.length_map, toI_len, HSL.out]; omega)⟩
          obtain ⟨z7, k7⟩ : ∃ z, a6.cell? ⟨g5, 7, none⟩ = some z := by
            rw [HV6.out.cellAt 7 (by omega)]
            exact ⟨_, List.getElem?_eq_getElem (by rw [List.length_map, toI_len, HSL.out]; omega)⟩
          have f6 := HV6.out.frozenAt 6
          have f7 := HV6.out.frozenAt 7
          have st1 := (HV6.out.stored 6 (.int .u8 ((s2 / 256 : Nat) : Int))).1
          have st2 := (st1.stored 7 (.int .u8 ((s2 % 256 : Nat) : Int))).1
          have HST : Hid (((a6.setCell ⟨g5, 6, none⟩ (.int .u8 ((s2 / 256 : Nat) : Int))).setCell ⟨g5, 7, none⟩ (.int .u8 ((s2 % 256 : Nat) : Int))).ownsRow w2.heap.size 5 1 (.slice (some ⟨g5, 0, none⟩) (8 + n) c5) (8 + n) ((toI (L4.uHd u s2 ++ u.d)).map (Value.int .u8))) := by
            have e : (((toI (L4.uHd u 0 ++ u.d)).map (Value.int .u8)).set 6 (.int .u8 ((s2 / 256 : Nat) : Int))).set 7 (.int .u8 ((s2 % 256 : Nat) : Int)) = (toI (L4.uHd u s2 ++ u.d)).map (Value.int .u8) := by
              simp [toI, L4.uHd]
            rw [e] at st2
            exact st2
          have HBE : Hid (Below w2.heap.size w2 ((a6.setCell ⟨g5, 6, none⟩ (.int .u8 ((s2 / 256 : Nat) : Int))).setCell ⟨g5, 7, none⟩ (.int .u8 ((s2 % 256 : Nat) : Int)))) := by
            have hgb := (HV6.out.lt g5 rfl).1
            exact Ba6.trans ((((Ch.refl (fun q => q = g5) a6).set ⟨g5, 6, none⟩ _ rfl).set ⟨g5, 7, none⟩ _ rfl).below (fun x q => by have e' : x = g5 := q; omega) Ba6.size)
          have HSER : Hid (wU9 V U x y u n = L4.uHd u s2 ++ u.d) := by show _ = _; rw [HUL.out, L4.uSer, HSUM.out]
          have d1 : ((s2 / 256 : Nat) : Int) = (s2 : Int) / 256 := by omega
          have d2 : ((s2 % 256 : Nat) : Int) = (s2 : Int) % 256 := by omega
          rw [d1, d2] at HST HBE
          have u1 : IntKind.u8.wrap ((s2 : Int) / 256) = (s2 : Int) / 256 := by rw [IntKind.wrap_u8]; omega
          have u2 : IntKind.u8.wrap ((s2 : Int) % 256) = (s2 : Int) % 256 := by rw [IntKind.wrap_u8]; omega
          clear st1 st2 HV6 HX6 HY6 d1 d2
          go_upto_region 18 with fail
          rw [HS2.out]
          clear q0
          go_wp2
          go_ret2
          refine ⟨some ⟨g5, 0, none⟩, c5, ?_, belw2.trans (HBE.out.mono belw2.size), ?_⟩
          · rw [HFE.out]; rfl
          · rw [HFE.out, HSER.out]; exact owns_le HST.out belw2.size
        · obtain ⟨s2, hs2⟩ : ∃ s2 : Nat, s2 = Sv := ⟨_, rfl⟩
          have hs5 : s2 ≤ 65535 := by omega
          have HS2 : Hid ((Sv : Int) = (s2 : Int)) := by show _ = _; omega
          have HSUM : Hid (L4.uSum u (psL V U x y 17 ((8 + n : Nat) : Int)) = s2) := by show _ = _; rw [L4.uSum, HNS.out, if_neg (by simp), HRAW.out, L4.nz, if_neg hz, hs2]
          have q0 : ((Sv : Int) == 0) = false := by simp; exact hz
          clear hz hs2
          have HSL : Hid ((L4.uHd u 0 ++ u.d).length = 8 + n) := by show _ = _; rw [List.length_append, L4.uHd_len, HD.out.dl]
          obtain ⟨g5, hg5⟩ : ∃ g, v5 = some ⟨g, 0, none⟩ := by
            rcases HV6.out.2 with ⟨_, e2⟩ | ⟨g, cap, cur, e1, _⟩
            · omega
            · simp only [Value.slice.injEq, true_and] at e1
              exact ⟨g, e1.1⟩
          subst hg5
          obtain ⟨z6, k6⟩ : ∃ z, a6.cell? ⟨g5, 6, none⟩ = some z := by
            rw [HV6.out.cellAt 6 (by omega)]
            exact ⟨_, List.getElem?_eq_getElem (by rw [List.length_map, toI_len, HSL.out]; omega)⟩
          obtain ⟨z7, k7⟩ : ∃ z, a6.cell? ⟨g5, 7, none⟩ = some z := by
            rw [HV6.out.cellAt 7 (by omega)]
            exact ⟨_, List.getElem?_eq_getElem (by rw [List.length_map, toI_len, HSL.out]; omega)⟩
          have f6 := HV6.out.frozenAt 6
          have f7 := HV6.out.frozenAt 7
          have st1 := (HV6.out.stored 6 (.int .u8 ((s2 / 256 : Nat) : Int))).1
          have st2 := (st1.stored 7 (.int .u8 ((s2 % 256 : Nat) : Int))).1
          have HST : Hid (((a6.setCell ⟨g5, 6, none⟩ (.int .u8 ((s2 / 256 : Nat) : Int))).setCell ⟨g5, 7, none⟩ (.int .u8 ((s2 % 256 : Nat) : Int))).ownsRow w2.heap.size 5 1 (.slice (some ⟨g5, 0, none⟩) (8 + n) c5) (8 + n) ((toI (L4.uHd u s2 ++ u.d)).map (Value.int .u8))) := by
            have e : (((toI (L4.uHd u 0 ++ u.d)).map (Value.int .u8)).set 6 (.int .u8 ((s2 / 256 : Nat) : Int))).set 7 (.int .u8 ((s2 % 256 : Nat) : Int)) = (toI (L4.uHd u s2 ++ u.d)).map (Value.int .u8) := by
              simp [toI, L4.uHd]
            rw [e] at st2
            exact st2
          have HBE : Hid (Below w2.heap.size w2 ((a6.setCell ⟨g5, 6, none⟩ (.int .u8 ((s2 / 256 : Nat) : Int))).setCell ⟨g5, 7, none⟩ (.int .u8 ((s2 % 256 : Nat) : Int)))) := by
            have hgb := (HV6.out.lt g5 rfl).1
            exact Ba6.trans ((((Ch.refl (fun q => q = g5) a6).set ⟨g5, 6, none⟩ _ rfl).set ⟨g5, 7, none⟩ _ rfl).below (fun x q => by have e' : x = g5 := q; omega) Ba6.size)
          have HSER : Hid (wU9 V U x y u n = L4.uHd u s2 ++ u.d) := by show _ = _; rw [HUL.out, L4.uSer, HSUM.out]
          have d1 : ((s2 / 256 : Nat) : Int) = (s2 : Int) / 256 := by omega
          have d2 : ((s2 % 256 : Nat) : Int) = (s2 : Int) % 256 := by omega
          rw [d1, d2] at HST HBE
          have u1 : IntKind.u8.wrap ((s2 : Int) / 256) = (s2 : Int) / 256 := by rw [IntKind.wrap_u8]; omega
          have u2 : IntKind.u8.wrap ((s2 : Int) % 256) = (s2 : Int) % 256 := by rw [IntKind.wrap_u8]; omega
          clear st1 st2 HV6 HX6 HY6 d1 d2
          go_upto_region 18 with fail
          rw [HS2.out]
          clear q0
          go_wp2
          go_ret2
          refine ⟨some ⟨g5, 0, none⟩, c5, ?_, belw2.trans (HBE.out.mono belw2.size), ?_⟩
          · rw [HFE.out]; rfl
          · rw [HFE.out, HSER.out]; exact owns_le HST.out belw2.size
end Go.Proofs.YtfoeepbndfnifaaGreatDoor
namespace Go.Proofs.YtfoeepbndfnifaaGreatDoor
open Go.RowKit
open L4 (U9 T9)
set_option maxHeartbeats 6400000 in
set_option maxRecDepth 100000 in
theorem rputTO_any (la : Option Addr) (n cap : Nat) (os : List OpV) (w : World) (hn : os.length = n) (ho : OptsAt w la os) (hb : n ≤ 1048576) (hd : ∀ o ∈ os, o.d.length ≤ 1048576) :
    Calls Tryz.prog 21 #[.slice la n cap] w fun e w' => ∃ va vc, e = .returned (.tuple #[.slice va (wO9 os).length vc, .int .i64 (tpE (vals os))]) ∧ Below w.heap.size w w' ∧ w'.ownsRow w.heap.size 5 1 (.slice va (wO9 os).length vc) (wO9 os).length ((toI (wO9 os)).map (Value.int .u8)) := by
  have HN : Hid (os.length = n) := hn
  have HO : Hid (OptsAt w la os) := ho
  have HD : Hid (∀ o ∈ os, o.d.length ≤ 1048576) := hd
  have HS0 : Hid (L4.lensOk ((vals os).take 0) = true ∧ Below w.heap.size w w) := ⟨rfl, Below.refl _ _⟩
  clear hn ho hd
  go_enter Tryz.func21, Tryz.ntmps21
  go_wp2
  go_loopw [4] (fun ix wr => ∃ k : Nat, k ≤ n ∧ ix = .int .i64 (k : Int) ∧ Hid (L4.lensOk ((vals os).take k) = true ∧ Below w.heap.size w wr)) (fun ix _ => n - (intOf ix).toNat)
  case atStart => exact ⟨0, Nat.zero_le _, rfl, HS0⟩
  case round =>
    obtain ⟨k, hk, rfl, HS⟩ := hrel
    clear HS0
    by_cases hge : n ≤ k
    · have d0 : ¬ (k : Int) < (n : Int) := by omega
      have HL : Hid (L4.lensOk (vals os) = true) := by
        have := HS.out.1
        rw [List.take_of_length_le (by simp [vals, HN.out]; omega)] at this
        exact this
      have belr := HS.out.2
      have QP : Hid _ := rput_any la n cap os wr HN.out (HO.out.old belr) hb HD.out
      clear hge HS
      go_wp2_with fail
      refine Calls.mono QP.out ?_
      rintro e w1 ⟨hb1, hr⟩
      have bel1 := bthen belr hb1
      rcases hr with ⟨h0, v, rfl, ho1⟩ | ⟨h0, rfl⟩
      · obtain ⟨va, vc, rfl⟩ := owns_shape ho1
        have HE : Hid (wO9 os = I4.putO (vals os) ∧ tpE (vals os) = 0) := by
          have : L4.tPutOk (vals os) = true := by unfold L4.tPutOk; rw [h0, HL.out]; rfl
          exact ⟨by unfold wO9; rw [if_pos this], by unfold tpE; rw [if_pos this]⟩
        have HO1 : Hid (w1.ownsRow w.heap.size 5 1 (.slice va (I4.putO (vals os)).length vc) (I4.putO (vals os)).length ((toI (I4.putO (vals os))).map (Value.int .u8))) := owns_le ho1 belr.size
        obtain ⟨L, hL⟩ : ∃ L, L = (I4.putO (vals os)).length := ⟨_, rfl⟩
        rw [← hL]
        have HLL : Hid ((I4.putO (vals os)).length = L) := hL.symm
        clear QP hb1 h0 ho1 hL
        go_wp2
        go_ret2
        refine ⟨va, vc, ?_, bel1, ?_⟩
        · rw [HE.out.1, HE.out.2, HLL.out]; rfl
        · rw [HE.out.1]; exact HO1.out
      · have HE : Hid (wO9 os = [] ∧ tpE (vals os) = 97) := by
          have : L4.tPutOk (vals os) = false := by unfold L4.tPutOk; rw [h0]; rfl
          exact ⟨by unfold wO9; rw [this]; rfl, by unfold tpE; rw [this]; rfl⟩
        clear QP hb1 h0
        go_wp2
        go_ret2
        exact ⟨none, 0, by rw [HE.out.1, HE.out.2]; rfl, bel1, by rw [HE.out.1]; exact World.ownsRow_nil _ _ _ _⟩
    · have d0 : (k : Int) < (n : Int) := by omega
      have hlt : k < n := by omega
      obtain ⟨o, hok⟩ : ∃ o, os[k]? = some o := ⟨_, List.getElem?_eq_getElem (by rw [HN.out]; exact hlt)⟩
      obtain ⟨b1, o1, rfl, hl1, ok1, c10, c11⟩ := (HO.out.old HS.out.2).at k o hok
      have hdl := HD.out o (List.mem_of_getElem? hok)
      obtain ⟨kd, hkd⟩ : ∃ kd, kd = o.k := ⟨_, rfl⟩
      obtain ⟨D, hDD⟩ : ∃ D, D = o.d.length := ⟨_, rfl⟩
      obtain ⟨oa, hoa⟩ : ∃ oa, oa = o.a := ⟨_, rfl⟩
      obtain ⟨oc, hoc⟩ : ∃ oc, oc = o.c := ⟨_, rfl⟩
      rw [← hkd] at c10
      rw [← hDD, ← hoa, ← hoc] at c11
      rw [← hDD] at hdl
      have HVO : Hid (os[k]? = some o) := hok
      have HKD : Hid (o.val = (kd, o.d) ∧ o.d.length = D) := ⟨by rw [hkd]; rfl, hDD.symm⟩
      have w2 : IntKind.i64.wrap ((D : Int) + 2) = (D : Int) + 2 := by rw [IntKind.wrap_i64]; omega
      have hrl : rlen kd ((D : Int) + 2) = L4.lenOk kd ((D + 2 : Nat) : Int) := by
        rw [rlen_eq, show ((D + 2 : Nat) : Int) = (D : Int) + 2 by omega, decide_eq_true (by omega), Bool.and_true]
      obtain ⟨lk, hlk⟩ : ∃ lk, lk = L4.lenOk kd ((D + 2 : Nat) : Int) := ⟨_, rfl⟩
      rw [← hlk] at hrl
      have HLK : Hid (L4.lensOk ((vals os).take (k + 1)) = (true && lk)) := by
        show _ = _
        rw [vals_take os k o HVO.out, L4.lensOk, List.all_append]
        have := HS.out.1
        unfold L4.lensOk at this
        rw [this, HKD.out.1]
        simp [hlk, HKD.out.2]
      obtain ⟨wA, hwA⟩ : ∃ wA, wA = wr.drew := ⟨_, rfl⟩
      have belA : Below w.heap.size w wA := by rw [hwA]; exact HS.out.2.drew
      have QL : Hid (Calls Tryz.prog 65 #[.int .i64 kd, .int .i64 ((D : Int) + 2)] wA fun e w' => e = .returned (.bool lk) ∧ wA = w') := by
        have := rlen_any kd ((D : Int) + 2) wA
        rw [hrl] at this
        exact this
      have hS : wA.cell? ⟨b1, o1 + k * 2, none⟩ = some (.int .i64 kd) ∧ wA.cell? ⟨b1, o1 + k * 2 + 1, none⟩ = some (.slice oa D oc) := by rw [hwA]; exact ⟨c10, c11⟩
      have k0 : (0 : Int) ≤ (k : Int) := by omega
      have k2 : ((k : Int)).toNat = k := by omega
      clear hge hok ok1 c10 c11 hkd hDD hoa hoc hl1 hrl hlk HS
      go_upto_region 4 with fail
      refine MixH.start (fun A => A.cell? ⟨b1, o1 + k * 2, none⟩ = some (.int .i64 kd) ∧ A.cell? ⟨b1, o1 + k * 2 + 1, none⟩ = some (.slice oa D oc)) (by kernel_rfl) ?_
      rw [← hwA]
      clear hwA
      refine MixH.takes [true, true, true, true, false, true, true, true, true] 6 (by kernel_rfl) (by kernel_rfl) (by decide) (by kernel_rfl) hS (fun K hK => ?_)
      simp only [Mix.pick]
      repeat (go_big_quiet_step (fail))
      refine wpQuiet_nil (hK _ ?_)
      clear hK K
      refine MixH.take 5 4 _ (.int .i64 kd) rfl (by kernel_rfl) (by kernel_rfl) (by kernel_rfl) (by kernel_rfl) (yields_int (.tmp 17) rfl ⟨b1, o1 + k * 2, none⟩ _ rfl rfl (fun A hA => hA.1)) hS (fun a' ha => ?_)
      simp only [Act.put, List.setIfInBounds_toArray, List.set_cons_succ, List.set_cons_zero] at ha
      subst ha
      refine MixH.take 4 9 _ (.slice oa D oc) rfl (by kernel_rfl) (by kernel_rfl) (by kernel_rfl) (by kernel_rfl) (yields_bytes (.tmp 22) rfl ⟨b1, o1 + k * 2 + 1, none⟩ _ rfl rfl (fun A hA => hA.2)) hS (fun a' ha => ?_)
      simp only [Act.put, List.setIfInBounds_toArray, List.set_cons_succ, List.set_cons_zero] at ha
      subst ha
      refine MixH.takes [false, false, false, false, false, false, false, false, false, false, true, true] 2 (by kernel_rfl) (by kernel_rfl) (by decide) (by kernel_rfl) hS (fun K hK => ?_)
      simp only [Mix.pick]
      repeat (go_big_quiet_step (fail))
      refine wpQuiet_nil (hK _ ?_)
      clear hK K
      refine MixH.one [false, false, false, false, false, false, false, false, false, false, false, false, true] 1 12 _ rfl rfl (by kernel_rfl) (by kernel_rfl) (fun K hK => ?_)
      simp only [Mix.pick]
      go_wp2_with fail
      refine Calls.mono QL.out ?_
      rintro ex wn ⟨rfl, rfl⟩
      go_wp2
      refine ⟨rfl, hK _ _ hS ?_⟩
      clear hK K
      refine MixH.takes [false, false, false, false, false, false, false, false, false, false, false, false, false, true] 0 (by kernel_rfl) (by kernel_rfl) (by decide) (by kernel_rfl) hS (fun K hK => ?_)
      simp only [Mix.pick]
      repeat (go_big_quiet_step (fail))
      refine wpQuiet_nil (hK _ ?_)
      clear hK K
      refine MixH.done (by kernel_rfl) ?_
      clear hS QL
      cases lk with
      | false =>
        have HE : Hid (wO9 os = [] ∧ tpE (vals os) = 97) := by
          have h1 : L4.lensOk (vals os) = false := by
            have h2 := HLK.out
            rw [← List.take_append_drop (k + 1) (vals os), L4.lensOk, List.all_append]
            unfold L4.lensOk at h2
            rw [h2]
            rfl
          have : L4.tPutOk (vals os) = false := by unfold L4.tPutOk; rw [h1, Bool.and_false]
          exact ⟨by unfold wO9; rw [this]; rfl, by unfold tpE; rw [this]; rfl⟩
        go_wp2
        go_ret2
        exact ⟨none, 0, by rw [HE.out.1, HE.out.2]; rfl, belA, by rw [HE.out.1]; exact World.ownsRow_nil _ _ _ _⟩
      | true =>
        have HN1 : Hid (L4.lensOk ((vals os).take (k + 1)) = true ∧ Below w.heap.size w wA) := ⟨HLK.out, belA⟩
        clear HLK belA
        go_wp2
        go_roundw
        case rel => exact ⟨k + 1, by omega, by go_num, HN1⟩
        case measure => simp [intOf]; omega
set_option maxHeartbeats 6400000 in
set_option maxRecDepth 100000 in
theorem rcheckT_any (t : T9) (la : Option Addr) (ln lc : Nat) (os : List OpV) (da : Option Addr) (n c : Nat) (w : World) (kt : TOk w t la ln os da n c) (hln : ln ≤ 1048576) (hs : ∀ o ∈ os, o.d.length ≤ 1048576) :
    Calls Tryz.prog 30 #[.agg (tC t la ln lc da n c)] w fun e w' => e = .returned (.int .i64 ((L4.tChk t : Nat) : Int)) ∧ Below w.heap.size w w' := by
  obtain ⟨W, hW⟩ : ∃ W, W = w.alloc (.cells (tC t la ln lc da n c) 33) := ⟨_, rfl⟩
  obtain ⟨O, hO⟩ : ∃ O, O = w.heap.size := ⟨_, rfl⟩
  have bel : Below w.heap.size w W := by rw [hW]; exact (Below.refl _ _).alloc (Nat.le_refl _) _
  have hr : TAt W O t la ln lc da n c := by rw [hW, hO]; exact tAt_new _ _ _ _ _ _ _ _
  obtain ⟨M, hM⟩ : ∃ M, M = tC t la ln lc da n c := ⟨_, rfl⟩
  have HW : Hid (w.alloc (.cells M 33) = W ∧ w.heap.size = O) := ⟨by rw [hM]; exact hW.symm, hO.symm⟩
  have HLT : Hid (O < W.heap.size) := hr.lt
  have c0 := hr.c0
  have c1 := hr.c1
  have c2 := hr.c2
  have c3 := hr.c3
  have c4 := hr.c4
  have c5 := hr.c5
  have c6 := hr.c6
  have c7 := hr.c7
  have c8 := hr.c8
  have HK : Hid (TOk w t la ln os da n c) := kt
  have HS : Hid (∀ o ∈ os, o.d.length ≤ 1048576) := hs
  rw [← hM]
  clear hW hO hr hM kt hs
  obtain ⟨sp, hsp⟩ : ∃ sp, sp = t.sp := ⟨_, rfl⟩
  rw [← hsp] at c0
  obtain ⟨dp, hdp⟩ : ∃ dp, dp = t.dp := ⟨_, rfl⟩
  rw [← hdp] at c1
  obtain ⟨wi, hwi⟩ : ∃ wi, wi = t.wi := ⟨_, rfl⟩
  rw [← hwi] at c5
  obtain ⟨ur, hur⟩ : ∃ ur, ur = t.ur := ⟨_, rfl⟩
  rw [← hur] at c6
  obtain ⟨sq, hsq⟩ : ∃ sq, sq = t.sq := ⟨_, rfl⟩
  rw [← hsq] at c2
  obtain ⟨ak, hak⟩ : ∃ ak, ak = t.ak := ⟨_, rfl⟩
  rw [← hak] at c3
  obtain ⟨fl, hfl⟩ : ∃ fl, fl = t.fl := ⟨_, rfl⟩
  rw [← hfl] at c4
  have HFF : Hid (t.sp = sp ∧ t.dp = dp ∧ t.wi = wi ∧ t.ur = ur ∧ t.sq = sq ∧ t.ak = ak ∧ t.fl = fl) := ⟨hsp.symm, hdp.symm, hwi.symm, hur.symm, hsq.symm, hak.symm, hfl.symm⟩
  have Qsp : Hid _ := rout_any sp 65535 W
  have Qdp : Hid _ := rout_any dp 65535 W
  have Qwi : Hid _ := rout_any wi 65535 W
  have Qur : Hid _ := rout_any ur 65535 W
  have Qsq : Hid _ := rout_any sq 4294967295 W
  have Qak : Hid _ := rout_any ak 4294967295 W
  have Qfl : Hid _ := rout_any fl 255 W
  clear hsp hdp hwi hur hsq hak hfl
  cases hbsp : L4.inB sp 65535 with
  | false =>
    rw [hbsp] at Qsp
    have HE : Hid (L4.tChk t = 98) := by
      show _ = _
      unfold L4.tChk L4.tOkF
      rw [HFF.out.1, hbsp]
      simp
    clear hbsp
    go_enter Tryz.func30, Tryz.ntmps30
    go_upto_region 1 with fail
    rw [HW.out.1, HW.out.2]
    go_wp2_with fail
    refine Calls.mono Qsp.out ?_
    rintro e wn ⟨rfl, rfl⟩
    go_wp2
    go_ret
    exact ⟨by rw [HE.out]; rfl, bel⟩
  | true =>
    rw [hbsp] at Qsp
    cases hbdp : L4.inB dp 65535 with
    | false =>
      rw [hbdp] at Qdp
      have HE : Hid (L4.tChk t = 98) := by
        show _ = _
        unfold L4.tChk L4.tOkF
        rw [HFF.out.2.1, hbdp]
        simp
      clear hbdp
      go_enter Tryz.func30, Tryz.ntmps30
      go_upto_region 1 with fail
      rw [HW.out.1, HW.out.2]
      go_wp2_with fail
      refine Calls.mono Qsp.out ?_
      rintro e wn ⟨rfl, rfl⟩
      go_wp2_with fail
      refine Calls.mono Qdp.out ?_
      rintro e wn ⟨rfl, rfl⟩
      go_wp2
      go_ret
      exact ⟨by rw [HE.out]; rfl, bel⟩
    | true =>
      rw [hbdp] at Qdp
      cases hbwi : L4.inB wi 65535 with
      | false =>
        rw [hbwi] at Qwi
        have HE : Hid (L4.tChk t = 98) := by
          show _ = _
          unfold L4.tChk L4.tOkF
          rw [HFF.out.2.2.1, hbwi]
          simp
        clear hbwi
        go_enter Tryz.func30, Tryz.ntmps30
        go_upto_region 1 with fail
        rw [HW.out.1, HW.out.2]
        go_wp2_with fail
        refine Calls.mono Qsp.out ?_
        rintro e wn ⟨rfl, rfl⟩
        go_wp2_with fail
        refine Calls.mono Qdp.out ?_
        rintro e wn ⟨rfl, rfl⟩
        go_wp2_with fail
        refine Calls.mono Qwi.out ?_
        rintro e wn ⟨rfl, rfl⟩
        go_wp2
        go_ret
        exact ⟨by rw [HE.out]; rfl, bel⟩
      | true =>
        rw [hbwi] at Qwi
        cases hbur : L4.inB ur 65535 with
        | false =>
          rw [hbur] at Qur
          have HE : Hid (L4.tChk t = 98) := by
            show _ = _
            unfold L4.tChk L4.tOkF
            rw [HFF.out.2.2.2.1, hbur]
            simp
          clear hbur
          go_enter Tryz.func30, Tryz.ntmps30
          go_upto_region 1 with fail
          rw [HW.out.1, HW.out.2]
          go_wp2_with fail
          refine Calls.mono Qsp.out ?_
          rintro e wn ⟨rfl, rfl⟩
          go_wp2_with fail
          refine Calls.mono Qdp.out ?_
          rintro e wn ⟨rfl, rfl⟩
          go_wp2_with fail
          refine Calls.mono Qwi.out ?_
          rintro e wn ⟨rfl, rfl⟩
          go_wp2_with fail
          refine Calls.mono Qur.out ?_
          rintro e wn ⟨rfl, rfl⟩
          go_wp2
          go_ret
          exact ⟨by rw [HE.out]; rfl, bel⟩
        | true =>
          rw [hbur] at Qur
          cases hbsq : L4.inB sq 4294967295 with
          | false =>
            rw [hbsq] at Qsq
            have HE : Hid (L4.tChk t = 98) := by
              show _ = _
              unfold L4.tChk L4.tOkF
              rw [HFF.out.2.2.2.2.1, hbsq]
              simp
            clear hbsq
            go_enter Tryz.func30, Tryz.ntmps30
            go_upto_region 1 with fail
            rw [HW.out.1, HW.out.2]
            go_wp2_with fail
            refine Calls.mono Qsp.out ?_
            rintro e wn ⟨rfl, rfl⟩
            go_wp2_with fail
            refine Calls.mono Qdp.out ?_
            rintro e wn ⟨rfl, rfl⟩
            go_wp2_with fail
            refine Calls.mono Qwi.out ?_
            rintro e wn ⟨rfl, rfl⟩
            go_wp2_with fail
            refine Calls.mono Qur.out ?_
            rintro e wn ⟨rfl, rfl⟩
            go_wp2_with fail
            refine Calls.mono Qsq.out ?_
            rintro e wn ⟨rfl, rfl⟩
            go_wp2
            go_ret
            exact ⟨by rw [HE.out]; rfl, bel⟩
          | true =>
            rw [hbsq] at Qsq
            cases hbak : L4.inB ak 4294967295 with
            | false =>
              rw [hbak] at Qak
              have HE : Hid (L4.tChk t = 98) := by
                show _ = _
                unfold L4.tChk L4.tOkF
                rw [HFF.out.2.2.2.2.2.1, hbak]
                simp
              clear hbak
              go_enter Tryz.func30, Tryz.ntmps30
              go_upto_region 1 with fail
              rw [HW.out.1, HW.out.2]
              go_wp2_with fail
              refine Calls.mono Qsp.out ?_
              rintro e wn ⟨rfl, rfl⟩
              go_wp2_with fail
              refine Calls.mono Qdp.out ?_
              rintro e wn ⟨rfl, rfl⟩
              go_wp2_with fail
              refine Calls.mono Qwi.out ?_
              rintro e wn ⟨rfl, rfl⟩
              go_wp2_with fail
              refine Calls.mono Qur.out ?_
              rintro e wn ⟨rfl, rfl⟩
              go_wp2_with fail
              refine Calls.mono Qsq.out ?_
              rintro e wn ⟨rfl, rfl⟩
              go_wp2_with fail
              refine Calls.mono Qak.out ?_
              rintro e wn ⟨rfl, rfl⟩
              go_wp2
              go_ret
              exact ⟨by rw [HE.out]; rfl, bel⟩
            | true =>
              rw [hbak] at Qak
              cases hbfl : L4.inB fl 255 with
              | false =>
                rw [hbfl] at Qfl
                have HE : Hid (L4.tChk t = 98) := by
                  show _ = _
                  unfold L4.tChk L4.tOkF
                  rw [HFF.out.2.2.2.2.2.2, hbfl]
                  simp
                clear hbfl
                go_enter Tryz.func30, Tryz.ntmps30
                go_upto_region 1 with fail
                rw [HW.out.1, HW.out.2]
                go_wp2_with fail
                refine Calls.mono Qsp.out ?_
                rintro e wn ⟨rfl, rfl⟩
                go_wp2_with fail
                refine Calls.mono Qdp.out ?_
                rintro e wn ⟨rfl, rfl⟩
                go_wp2_with fail
                refine Calls.mono Qwi.out ?_
                rintro e wn ⟨rfl, rfl⟩
                go_wp2_with fail
                refine Calls.mono Qur.out ?_
                rintro e wn ⟨rfl, rfl⟩
                go_wp2_with fail
                refine Calls.mono Qsq.out ?_
                rintro e wn ⟨rfl, rfl⟩
                go_wp2_with fail
                refine Calls.mono Qak.out ?_
                rintro e wn ⟨rfl, rfl⟩
                go_wp2_with fail
                refine Calls.mono Qfl.out ?_
                rintro e wn ⟨rfl, rfl⟩
                go_wp2
                go_ret
                exact ⟨by rw [HE.out]; rfl, bel⟩
              | true =>
                rw [hbfl] at Qfl
                go_enter Tryz.func30, Tryz.ntmps30
                go_upto_region 1 with fail
                rw [HW.out.1, HW.out.2]
                go_wp2_with fail
                refine Calls.mono Qsp.out ?_
                rintro e wn ⟨rfl, rfl⟩
                go_wp2_with fail
                refine Calls.mono Qdp.out ?_
                rintro e wn ⟨rfl, rfl⟩
                go_wp2_with fail
                refine Calls.mono Qwi.out ?_
                rintro e wn ⟨rfl, rfl⟩
                go_wp2_with fail
                refine Calls.mono Qur.out ?_
                rintro e wn ⟨rfl, rfl⟩
                go_wp2_with fail
                refine Calls.mono Qsq.out ?_
                rintro e wn ⟨rfl, rfl⟩
                go_wp2_with fail
                refine Calls.mono Qak.out ?_
                rintro e wn ⟨rfl, rfl⟩
                go_wp2_with fail
                refine Calls.mono Qfl.out ?_
                rintro e wn ⟨rfl, rfl⟩
                have HOK : Hid (L4.tOkF t = true) := by
                  show _ = _
                  unfold L4.tOkF
                  rw [HFF.out.1, HFF.out.2.1, HFF.out.2.2.2.2.1, HFF.out.2.2.2.2.2.1, HFF.out.2.2.2.2.2.2, HFF.out.2.2.1, HFF.out.2.2.2.1, hbsp, hbdp, hbsq, hbak, hbfl, hbwi, hbur]
                  rfl
                clear hbsp hbdp hbwi hbur hbsq hbak hbfl
                have QP : Hid _ := rputTO_any la ln lc os W HK.out.ol (HK.out.old bel).oat hln HS.out
                obtain ⟨OL, hOL⟩ : ∃ OL, OL = wO9 os := ⟨_, rfl⟩
                obtain ⟨LO, hLO⟩ : ∃ LO, LO = OL.length := ⟨_, rfl⟩
                have hLO5 : LO ≤ 65535 := by rw [hLO, hOL]; exact (wO9_ok HK.out.oat).2
                rw [← hOL, ← hLO] at QP
                have HOV : Hid (vals os = t.os) := HK.out.ov
                cases htp : L4.tPutOk (vals os) with
                | false =>
                  have HT : Hid (tpE (vals os) = 97 ∧ L4.tChk t = 97) := ⟨by unfold tpE; rw [htp]; rfl, by unfold L4.tChk; rw [HOK.out, if_pos rfl, ← HOV.out, htp]; rfl⟩
                  rw [HT.out.1] at QP
                  clear htp hOL hLO
                  go_wp2_with fail
                  refine Calls.mono QP.out ?_
                  rintro e w1 ⟨va, vc, rfl, hb1, _⟩
                  have bel1 := bthen bel hb1
                  clear QP hb1
                  go_wp2
                  go_ret
                  exact ⟨by rw [HT.out.2]; rfl, bel1⟩
                | true =>
                  have HT : Hid (tpE (vals os) = 0 ∧ L4.tChk t = if 65535 < 20 + LO + n then 2 else 0) := by
                    refine ⟨by unfold tpE; rw [htp]; rfl, ?_⟩
                    have e : (I4.putO t.os).length = LO := by rw [hLO, hOL, ← HOV.out]; unfold wO9; rw [if_pos htp]
                    unfold L4.tChk
                    rw [HOK.out, if_pos rfl, ← HOV.out, htp, if_pos rfl, HOV.out, e, HK.out.d.dl]
                  rw [HT.out.1] at QP
                  clear htp hOL hLO
                  go_wp2_with fail
                  refine Calls.mono QP.out ?_
                  rintro e w1 ⟨va, vc, rfl, hb1, _⟩
                  have bel1 := bthen bel hb1
                  have c8' := (hb1.cell (p := ⟨O, 8, none⟩) HLT.out).trans c8
                  have hnn := HK.out.d.sm
                  have e1 : IntKind.i64.wrap (20 + (LO : Int)) = 20 + (LO : Int) := by rw [IntKind.wrap_i64]; omega
                  have e2 : IntKind.i64.wrap (20 + (LO : Int) + (n : Int)) = 20 + (LO : Int) + (n : Int) := by rw [IntKind.wrap_i64]; omega
                  clear QP hb1
                  by_cases hbig : 65535 < 20 + LO + n
                  · have hb' : (65535 : Int) < 20 + (LO : Int) + (n : Int) := by omega
                    have HE : Hid (L4.tChk t = 2) := by show _ = _; rw [HT.out.2, if_pos hbig]
                    clear hbig
                    go_wp2
                    go_ret
                    exact ⟨by rw [HE.out]; rfl, bel1⟩
                  · have hb' : ¬ (65535 : Int) < 20 + (LO : Int) + (n : Int) := by omega
                    have HE : Hid (L4.tChk t = 0) := by show _ = _; rw [HT.out.2, if_neg hbig]
                    clear hbig
                    go_wp2
                    go_ret
                    exact ⟨by rw [HE.out]; rfl, bel1⟩
end Go.Proofs.YtfoeepbndfnifaaGreatDoor
namespace Go.Proofs.YtfoeepbndfnifaaGreatDoor
open Go.RowKit
open L4 (U9 T9)
theorem by1 (s : Nat) (h : s ≤ 255) : byN 1 s = [s] := by
  simp [byN]
  omega
theorem by4 (s : Nat) (h : s ≤ 4294967295) : byN 4 s = [s / 16777216, s / 65536 % 256, s / 256 % 256, s % 256] := by
  simp [byN, List.range_succ]
  omega
set_option maxHeartbeats 12800000 in
set_option maxRecDepth 100000 in
theorem rputT_any (V U : Int) (x y : Nat → Nat) (t : T9) (la : Option Addr) (ln lc : Nat) (os : List OpV) (da : Option Addr) (n c : Nat) (w : World) (kt : TOk w t la ln os da n c) (hln : ln ≤ 1048576) (hs : ∀ o ∈ os, o.d.length ≤ 1048576) (hx : ∀ i, i < 16 → x i < 256) (hy : ∀ i, i < 16 → y i < 256) :
    Calls Tryz.prog 20 #[.agg (ipCells V x), .agg (ipCells U y), .agg (tC t la ln lc da n c)] w fun e w' => ∃ va vc, e = .returned (.tuple #[.slice va (wT9 V U x y t n).length vc, .int .i64 ((L4.tPutE (psOk V U x y) t : Nat) : Int)]) ∧ Below w.heap.size w w' ∧ w'.ownsRow w.heap.size 5 1 (.slice va (wT9 V U x y t n).length vc) (wT9 V U x y t n).length ((toI (wT9 V U x y t n)).map (Value.int .u8)) := by
  obtain ⟨A, hA⟩ : ∃ A, A = ipCells V x := ⟨_, rfl⟩
  obtain ⟨C, hC⟩ : ∃ C, C = ipCells U y := ⟨_, rfl⟩
  have hx1 := boxed_new w V x 27
  have hy1 := boxed_new (w.alloc (.cells (ipCells V x) 27)) U y 27
  rw [World.size_alloc] at hy1
  have hx2 := hx1.old ((Below.refl _ _).alloc (Nat.le_refl _) (.cells (ipCells U y) 27))
  clear hx1
  rw [← hA] at hx2 hy1 ⊢
  rw [← hC] at hx2 hy1 ⊢
  obtain ⟨M, hM⟩ : ∃ M, M = tC t la ln lc da n c := ⟨_, rfl⟩
  obtain ⟨W2, hW2⟩ : ∃ W2, W2 = (w.alloc (.cells A 27)).alloc (.cells C 27) := ⟨_, rfl⟩
  have s2 : W2.heap.size = w.heap.size + 1 + 1 := by rw [hW2]; simp
  have bel2 : Below w.heap.size w W2 := by rw [hW2]; exact ((Below.refl _ _).alloc (Nat.le_refl _) _).alloc (by simp) _
  rw [← hW2] at hx2 hy1
  have hru := tAt_new W2 t la ln lc da n c
  have b3 : Below W2.heap.size W2 (W2.alloc (.cells M 33)) := (Below.refl _ _).alloc (Nat.le_refl _) _
  rw [← hM] at hru ⊢
  obtain ⟨W, hW⟩ : ∃ W, W = W2.alloc (.cells M 33) := ⟨_, rfl⟩
  rw [← hW] at hru b3
  have bel := bthen bel2 b3
  have HXB : Hid (Boxed W w.heap.size V x) := hx2.old b3
  have HYB : Hid (Boxed W (w.heap.size + 1) U y) := hy1.old b3
  obtain ⟨B, hB⟩ : ∃ B, B = w.heap.size := ⟨_, rfl⟩
  rw [← hB] at HXB HYB s2
  obtain ⟨O, hO⟩ : ∃ O, O = B + 1 + 1 := ⟨_, rfl⟩
  rw [s2, ← hO] at hru
  have HRU : Hid (TAt W O t la ln lc da n c) := hru
  have HB : Hid (w.heap.size = B) := hB.symm
  have HO : Hid (B + 1 + 1 = O) := hO.symm
  have HW : Hid (((w.alloc (.cells A 27)).alloc (.cells C 27)).alloc (.cells M 33) = W) := by show _ = _; rw [hW, hW2]
  have HX : Hid (∀ i, i < 16 → x i < 256) := hx
  have HY : Hid (∀ i, i < 16 → y i < 256) := hy
  clear hW hW2 hx2 hy1 hx hy hA hC hB hM hO hru b3 bel2 s2
  have HD : Hid (TOk w t la ln os da n c) := kt
  have HS : Hid (∀ o ∈ os, o.d.length ≤ 1048576) := hs
  have QF : Hid _ := rfit_any V U x y W
  clear kt hs
  cases hp : psOk V U x y with
  | false =>
    rw [hp] at QF
    have HE : Hid (L4.tPutE false t = 20 ∧ wT9 V U x y t n = []) := ⟨rfl, by unfold wT9; rw [hp]; rfl⟩
    rw [HE.out.1, HE.out.2]
    clear hp
    go_enter Tryz.func20, Tryz.ntmps20
    go_upto_region 1 with fail
    rw [HB.out, HO.out, HW.out]
    go_wp2_with (first | (refine wpList_load_ip (.tmp 3) rfl B V x rfl HXB.out rfl ?_) | (refine wpList_load_ip (.tmp 4) rfl (B + 1) U y rfl HYB.out rfl ?_))
    refine Calls.mono QF.out ?_
    rintro e w1 ⟨rfl, hb1⟩
    have bel1 := bthen bel hb1
    clear QF hb1
    go_wp2
    go_ret2
    exact ⟨none, 0, rfl, bel1, World.ownsRow_nil _ _ _ _⟩
  | true =>
    rw [hp] at QF
    have HUE : Hid (L4.tPutE true t = L4.tChk t) := rfl
    rw [HUE.out]
    have HPS : Hid (psOk V U x y = true) := hp
    obtain ⟨E, hE⟩ : ∃ E, E = L4.tChk t := ⟨_, rfl⟩
    have QC : Hid (∀ A : World, Below w.heap.size w A → _) := fun A hA => rcheckT_any t la ln lc os da n c A (HD.out.old hA) hln HS.out
    have QO : Hid (∀ A : World, Below w.heap.size w A → _) := fun A hA => rputTO_any la ln lc os A HD.out.ol (HD.out.old hA).oat hln HS.out
    rw [← hE]
    have HE : Hid (L4.tChk t = E) := hE.symm
    clear hp hE
    go_enter Tryz.func20, Tryz.ntmps20
    go_upto_region 1 with fail
    rw [HB.out, HO.out, HW.out]
    go_wp2_with (first | (refine wpList_load_ip (.tmp 3) rfl B V x rfl HXB.out rfl ?_) | (refine wpList_load_ip (.tmp 4) rfl (B + 1) U y rfl HYB.out rfl ?_))
    refine Calls.mono QF.out ?_
    rintro e w1 ⟨rfl, hb1⟩
    have belw1 := bthen bel hb1
    have HX1 : Hid (Boxed w1 B V x) := HXB.out.old hb1
    have HY1 : Hid (Boxed w1 (B + 1) U y) := HYB.out.old hb1
    have HU1 : Hid (TAt w1 O t la ln lc da n c) := HRU.out.below hb1
    have QC1 : Hid _ := QC.out w1 belw1
    rw [HE.out] at QC1
    clear QF hb1 HXB HYB HRU HW HB HO bel QC
    go_wp2_with (first | (refine wpList_load_t9 (.tmp 5) rfl O t la ln lc da n c rfl HU1.out rfl ?_))
    refine Calls.mono QC1.out ?_
    rintro e w2 ⟨rfl, hb2⟩
    have belw2 := bthen belw1 hb2
    have HXa : Hid (Boxed w2 B V x) := HX1.out.old hb2
    have HYa : Hid (Boxed w2 (B + 1) U y) := HY1.out.old hb2
    have HUU : Hid (TAt w2 O t la ln lc da n c) := HU1.out.below hb2
    clear QC1 hb2 HX1 HY1 HU1 belw1
    by_cases hE0 : E = 0
    case neg =>
      have HN : Hid (wT9 V U x y t n = []) := by
        show _ = _
        unfold wT9
        rw [HPS.out, if_neg]
        rw [HUE.out, HE.out]
        exact hE0
      have q0 : ((E : Int) != 0) = true := by simp; exact hE0
      clear hE0
      go_wp2
      go_ret2
      exact ⟨none, 0, by rw [HN.out]; rfl, belw2, by rw [HN.out]; exact World.ownsRow_nil _ _ _ _⟩
    case pos =>
      subst hE0
      have hz := L4.tChk_zero HE.out
      have HUL : Hid (wT9 V U x y t n = L4.tSer t (psL V U x y 6 ((20 + (I4.putO t.os).length + n : Nat) : Int))) := by
        show _ = _
        unfold wT9
        rw [HPS.out, if_pos]
        rw [HUE.out, HE.out]
      obtain ⟨OL, hOL⟩ : ∃ OL, OL = wO9 os := ⟨_, rfl⟩
      obtain ⟨LO, hLO⟩ : ∃ LO, LO = OL.length := ⟨_, rfl⟩
      have hpu : OL = I4.putO t.os := by rw [hOL, ← HD.out.ov]; unfold wO9; rw [if_pos (by rw [HD.out.ov]; exact hz.2.1)]
      have HPU : Hid (OL = I4.putO t.os ∧ True) := ⟨hpu, trivial⟩
      have HOL : Hid (OL.length = LO ∧ ∀ z ∈ OL, z < 256) := ⟨hLO.symm, by rw [hOL]; exact (wO9_ok HD.out.oat).1⟩
      have hLO4 : LO ≤ 40 := by rw [hLO, hpu]; exact (I4.put_len t.os).1
      have hn : 20 + LO + n ≤ 65535 := by have := hz.2.2; rw [HD.out.d.dl, ← hpu, ← hLO] at this; exact this
      have HTE : Hid (tpE (vals os) = 0) := by show _ = _; unfold tpE; rw [HD.out.ov, hz.2.1]; rfl
      have hok := hz.1
      simp only [L4.tOkF, L4.inB, Bool.and_eq_true, decide_eq_true_eq] at hok
      obtain ⟨SP, hSP⟩ : ∃ z : Nat, t.sp = (z : Int) := ⟨t.sp.toNat, by omega⟩
      obtain ⟨DP, hDP⟩ : ∃ z : Nat, t.dp = (z : Int) := ⟨t.dp.toNat, by omega⟩
      obtain ⟨SQ, hSQ⟩ : ∃ z : Nat, t.sq = (z : Int) := ⟨t.sq.toNat, by omega⟩
      obtain ⟨AK, hAK⟩ : ∃ z : Nat, t.ak = (z : Int) := ⟨t.ak.toNat, by omega⟩
      obtain ⟨FL, hFL⟩ : ∃ z : Nat, t.fl = (z : Int) := ⟨t.fl.toNat, by omega⟩
      obtain ⟨WI, hWI⟩ : ∃ z : Nat, t.wi = (z : Int) := ⟨t.wi.toNat, by omega⟩
      obtain ⟨UR, hUR⟩ : ∃ z : Nat, t.ur = (z : Int) := ⟨t.ur.toNat, by omega⟩
      have hb : SP ≤ 65535 ∧ DP ≤ 65535 ∧ SQ ≤ 4294967295 ∧ AK ≤ 4294967295 ∧ FL ≤ 255 ∧ WI ≤ 65535 ∧ UR ≤ 65535 := ⟨by omega, by omega, by omega, by omega, by omega, by omega, by omega⟩
      have HNN : Hid (t.sp.toNat = SP ∧ t.dp.toNat = DP ∧ t.sq.toNat = SQ ∧ t.ak.toNat = AK ∧ t.fl.toNat = FL ∧ t.wi.toNat = WI ∧ t.ur.toNat = UR) := ⟨by omega, by omega, by omega, by omega, by omega, by omega, by omega⟩
      have QO1 : Hid _ := QO.out w2 belw2
      rw [← hOL, ← hLO, HTE.out] at QO1
      have c7 := HUU.out.c7
      clear hz hok hpu hOL hLO
      go_wp2_with fail
      refine Calls.mono QO1.out ?_
      rintro e w3 ⟨po, pc, rfl, hb3, hpo⟩
      have belw3 := bthen belw2 hb3
      have HX2 : Hid (Boxed w3 B V x) := HXa.out.old hb3
      have HY2 : Hid (Boxed w3 (B + 1) U y) := HYa.out.old hb3
      have HU3 : Hid (TAt w3 O t la ln lc da n c) := HUU.out.below hb3
      have HPO : Hid (w3.ownsRow w2.heap.size 5 1 (.slice po LO pc) LO ((toI OL).map (Value.int .u8))) := hpo
      have c0 := HU3.out.c0
      have c1 := HU3.out.c1
      have c2 := HU3.out.c2
      have c3 := HU3.out.c3
      have c4 := HU3.out.c4
      have c5 := HU3.out.c5
      have c6 := HU3.out.c6
      have c8 := HU3.out.c8
      rw [hSP] at c0
      rw [hDP] at c1
      rw [hSQ] at c2
      rw [hAK] at c3
      rw [hFL] at c4
      rw [hWI] at c5
      rw [hUR] at c6
      have C0 : Hid (∀ A, Below w3.heap.size w3 A → A.cell? ⟨O, 0, none⟩ = some (.int .i64 (SP : Int)) ∧ A.cell? ⟨O, 1, none⟩ = some (.int .i64 (DP : Int)) ∧ A.cell? ⟨O, 2, none⟩ = some (.int .i64 (SQ : Int)) ∧ A.cell? ⟨O, 3, none⟩ = some (.int .i64 (AK : Int)) ∧ A.cell? ⟨O, 4, none⟩ = some (.int .i64 (FL : Int)) ∧ A.cell? ⟨O, 5, none⟩ = some (.int .i64 (WI : Int)) ∧ A.cell? ⟨O, 6, none⟩ = some (.int .i64 (UR : Int)) ∧ A.cell? ⟨O, 8, none⟩ = some (.slice da n c)) := fun A hA =>
        have e : ∀ j, A.cell? ⟨O, j, none⟩ = w3.cell? ⟨O, j, none⟩ := fun j => hA.cell (p := ⟨O, j, none⟩) HU3.out.lt
        ⟨(e 0).trans c0, (e 1).trans c1, (e 2).trans c2, (e 3).trans c3, (e 4).trans c4, (e 5).trans c5, (e 6).trans c6, (e 8).trans c8⟩
      clear QO QO1 c7 hb3 hpo hSP hDP hSQ hAK hFL hWI hUR c0 c1 c2 c3 c4 c5 c6 c8 HXa HYa HUU
      have Bw3 : Below w3.heap.size w3 w3 := Below.refl _ _
      obtain ⟨i0, hi, hz0, hz1, hz2⟩ := info_parts Tryz.infoByte
      have HV0 : Hid (w3.ownsRow w3.heap.size 5 1 (.slice none 0 0) 0 ((toI ([])).map (Value.int .u8))) := World.ownsRow_nil _ _ _ _
      have g1 : IntKind.i64.wrap (20 + (LO : Int)) = 20 + (LO : Int) := by rw [IntKind.wrap_i64]; omega
      have g2 : Int.tdiv (20 + (LO : Int)) 4 = (20 + (LO : Int)) / 4 := Int.tdiv_eq_ediv_of_nonneg (by omega)
      have g3 : IntKind.i64.wrap ((20 + (LO : Int)) / 4) = (20 + (LO : Int)) / 4 := by rw [IntKind.wrap_i64]; omega
      have g4 : IntKind.i64.wrap ((20 + (LO : Int)) / 4 * 16) = (20 + (LO : Int)) / 4 * 16 := by rw [IntKind.wrap_i64]; omega
      have q := (C0.out w3 Bw3).1
      have QA : Hid _ := radd_any w3.heap.size (.slice none 0 0) 0 SP 2 ([]) w3 HV0.out (by omega) (by omega) (by omega) Bw3.size
      go_wp2_with fail
      refine Calls.mono QA.out ?_
      rintro e a1 ⟨vv, rfl, ho, hb⟩
      obtain ⟨v1, c1, hv⟩ := owns_shape ho
      have hv' : vv = .slice v1 2 c1 := hv
      subst hv'
      have HV1 : Hid (a1.ownsRow w3.heap.size 5 1 (.slice v1 2 c1) 2 ((toI (([]) ++ byN 2 SP)).map (Value.int .u8))) := ho
      have Ba1 : Below w3.heap.size w3 a1 := Bw3.trans hb
      clear QA ho hb HV0 hv q
      have q := (C0.out a1 Ba1).2.1
      have QA : Hid _ := radd_any w3.heap.size (.slice v1 2 c1) 2 DP 2 (([]) ++ byN 2 SP) a1 HV1.out (by omega) (by omega) (by omega) Ba1.size
      go_wp2_with fail
      refine Calls.mono QA.out ?_
      rintro e a2 ⟨vv, rfl, ho, hb⟩
      obtain ⟨v2, c2, hv⟩ := owns_shape ho
      have hv' : vv = .slice v2 4 c2 := hv
      subst hv'
      have HV2 : Hid (a2.ownsRow w3.heap.size 5 1 (.slice v2 4 c2) 4 ((toI ((([]) ++ byN 2 SP) ++ byN 2 DP)).map (Value.int .u8))) := ho
      have Ba2 : Below w3.heap.size w3 a2 := Ba1.trans hb
      clear QA ho hb HV1 hv q
      have q := (C0.out a2 Ba2).2.2.1
      have QA : Hid _ := radd_any w3.heap.size (.slice v2 4 c2) 4 SQ 4 ((([]) ++ byN 2 SP) ++ byN 2 DP) a2 HV2.out (by omega) (by omega) (by omega) Ba2.size
      go_wp2_with fail
      refine Calls.mono QA.out ?_
      rintro e a3 ⟨vv, rfl, ho, hb⟩
      obtain ⟨v3, c3, hv⟩ := owns_shape ho
      have hv' : vv = .slice v3 8 c3 := hv
      subst hv'
      have HV3 : Hid (a3.ownsRow w3.heap.size 5 1 (.slice v3 8 c3) 8 ((toI (((([]) ++ byN 2 SP) ++ byN 2 DP) ++ byN 4 SQ)).map (Value.int .u8))) := ho
      have Ba3 : Below w3.heap.size w3 a3 := Ba2.trans hb
      clear QA ho hb HV2 hv q
      have q := (C0.out a3 Ba3).2.2.2.1
      have QA : Hid _ := radd_any w3.heap.size (.slice v3 8 c3) 8 AK 4 (((([]) ++ byN 2 SP) ++ byN 2 DP) ++ byN 4 SQ) a3 HV3.out (by omega) (by omega) (by omega) Ba3.size
      go_wp2_with fail
      refine Calls.mono QA.out ?_
      rintro e a4 ⟨vv, rfl, ho, hb⟩
      obtain ⟨v4, c4, hv⟩ := owns_shape ho
      have hv' : vv = .slice v4 12 c4 := hv
      subst hv'
      have HV4 : Hid (a4.ownsRow w3.heap.size 5 1 (.slice v4 12 c4) 12 ((toI ((((([]) ++ byN 2 SP) ++ byN 2 DP) ++ byN 4 SQ) ++ byN 4 AK)).map (Value.int .u8))) := ho
      have Ba4 : Below w3.heap.size w3 a4 := Ba3.trans hb
      clear QA ho hb HV3 hv q
      have QA : Hid _ := radd_any w3.heap.size (.slice v4 12 c4) 12 ((20 + LO) / 4 * 16) 1 ((((([]) ++ byN 2 SP) ++ byN 2 DP) ++ byN 4 SQ) ++ byN 4 AK) a4 HV4.out (by omega) (by omega) (by omega) Ba4.size
      rw [show (((20 + LO) / 4 * 16 : Nat) : Int) = (20 + (LO : Int)) / 4 * 16 from by omega] at QA
      go_wp2_with fail
      refine Calls.mono QA.out ?_
      rintro e a5 ⟨vv, rfl, ho, hb⟩
      obtain ⟨v5, c5, hv⟩ := owns_shape ho
      have hv' : vv = .slice v5 13 c5 := hv
      subst hv'
      have HV5 : Hid (a5.ownsRow w3.heap.size 5 1 (.slice v5 13 c5) 13 ((toI (((((([]) ++ byN 2 SP) ++ byN 2 DP) ++ byN 4 SQ) ++ byN 4 AK) ++ byN 1 ((20 + LO) / 4 * 16))).map (Value.int .u8))) := ho
      have Ba5 : Below w3.heap.size w3 a5 := Ba4.trans hb
      clear QA ho hb HV4 hv 
      have q := (C0.out a5 Ba5).2.2.2.2.1
      have QA : Hid _ := radd_any w3.heap.size (.slice v5 13 c5) 13 FL 1 (((((([]) ++ byN 2 SP) ++ byN 2 DP) ++ byN 4 SQ) ++ byN 4 AK) ++ byN 1 ((20 + LO) / 4 * 16)) a5 HV5.out (by omega) (by omega) (by omega) Ba5.size
      go_wp2_with fail
      refine Calls.mono QA.out ?_
      rintro e a6 ⟨vv, rfl, ho, hb⟩
      obtain ⟨v6, c6, hv⟩ := owns_shape ho
      have hv' : vv = .slice v6 14 c6 := hv
      subst hv'
      have HV6 : Hid (a6.ownsRow w3.heap.size 5 1 (.slice v6 14 c6) 14 ((toI ((((((([]) ++ byN 2 SP) ++ byN 2 DP) ++ byN 4 SQ) ++ byN 4 AK) ++ byN 1 ((20 + LO) / 4 * 16)) ++ byN 1 FL)).map (Value.int .u8))) := ho
      have Ba6 : Below w3.heap.size w3 a6 := Ba5.trans hb
      clear QA ho hb HV5 hv q
      have q := (C0.out a6 Ba6).2.2.2.2.2.1
      have QA : Hid _ := radd_any w3.heap.size (.slice v6 14 c6) 14 WI 2 ((((((([]) ++ byN 2 SP) ++ byN 2 DP) ++ byN 4 SQ) ++ byN 4 AK) ++ byN 1 ((20 + LO) / 4 * 16)) ++ byN 1 FL) a6 HV6.out (by omega) (by omega) (by omega) Ba6.size
      go_wp2_with fail
      refine Calls.mono QA.out ?_
      rintro e a7 ⟨vv, rfl, ho, hb⟩
      obtain ⟨v7, c7, hv⟩ := owns_shape ho
      have hv' : vv = .slice v7 16 c7 := hv
      subst hv'
      have HV7 : Hid (a7.ownsRow w3.heap.size 5 1 (.slice v7 16 c7) 16 ((toI (((((((([]) ++ byN 2 SP) ++ byN 2 DP) ++ byN 4 SQ) ++ byN 4 AK) ++ byN 1 ((20 + LO) / 4 * 16)) ++ byN 1 FL) ++ byN 2 WI)).map (Value.int .u8))) := ho
      have Ba7 : Below w3.heap.size w3 a7 := Ba6.trans hb
      clear QA ho hb HV6 hv q
      have QA : Hid _ := radd_any w3.heap.size (.slice v7 16 c7) 16 0 2 (((((((([]) ++ byN 2 SP) ++ byN 2 DP) ++ byN 4 SQ) ++ byN 4 AK) ++ byN 1 ((20 + LO) / 4 * 16)) ++ byN 1 FL) ++ byN 2 WI) a7 HV7.out (by omega) (by omega) (by omega) Ba7.size
      go_wp2_with fail
      refine Calls.mono QA.out ?_
      rintro e a8 ⟨vv, rfl, ho, hb⟩
      obtain ⟨v8, c8, hv⟩ := owns_shape ho
      have hv' : vv = .slice v8 18 c8 := hv
      subst hv'
      have HV8 : Hid (a8.ownsRow w3.heap.size 5 1 (.slice v8 18 c8) 18 ((toI ((((((((([]) ++ byN 2 SP) ++ byN 2 DP) ++ byN 4 SQ) ++ byN 4 AK) ++ byN 1 ((20 + LO) / 4 * 16)) ++ byN 1 FL) ++ byN 2 WI) ++ byN 2 0)).map (Value.int .u8))) := ho
      have Ba8 : Below w3.heap.size w3 a8 := Ba7.trans hb
      clear QA ho hb HV7 hv 
      have q := (C0.out a8 Ba8).2.2.2.2.2.2.1
      have QA : Hid _ := radd_any w3.heap.size (.slice v8 18 c8) 18 UR 2 ((((((((([]) ++ byN 2 SP) ++ byN 2 DP) ++ byN 4 SQ) ++ byN 4 AK) ++ byN 1 ((20 + LO) / 4 * 16)) ++ byN 1 FL) ++ byN 2 WI) ++ byN 2 0) a8 HV8.out (by omega) (by omega) (by omega) Ba8.size
      go_wp2_with fail
      refine Calls.mono QA.out ?_
      rintro e a9 ⟨vv, rfl, ho, hb⟩
      obtain ⟨v9, c9, hv⟩ := owns_shape ho
      have hv' : vv = .slice v9 20 c9 := hv
      subst hv'
      have HV9 : Hid (a9.ownsRow w3.heap.size 5 1 (.slice v9 20 c9) 20 ((toI (((((((((([]) ++ byN 2 SP) ++ byN 2 DP) ++ byN 4 SQ) ++ byN 4 AK) ++ byN 1 ((20 + LO) / 4 * 16)) ++ byN 1 FL) ++ byN 2 WI) ++ byN 2 0) ++ byN 2 UR)).map (Value.int .u8))) := ho
      have Ba9 : Below w3.heap.size w3 a9 := Ba8.trans hb
      clear QA ho hb HV8 hv q
      clear g1 g2 g3 g4
      have HPG : Hid (Seg .u8 a9 po (toI OL)) := (owns_seg_at ((Ch.ofBelow (S := fun _ => False) (show Below w3.heap.size w3 a9 from Ba9)).owns HPO.out (fun _ _ => id))).1
      have hb9 := Ba9.size
      go_wp2_with (first | (at_builtin; refine append_split_seg rfl (.tmp 67) (.tmp 68) 28 rfl w3.heap.size 5 i0 (.int .u8 0) 1 Tryz.underlying28 hi hz0 hz1 hz2 rfl (.slice v9 20 c9) 20 _ rfl HV9.out .u8 po LO pc (toI OL) rfl (by rw [toI_len]; exact HOL.out.1) HPG.out (by unfold maxLen; omega) (by omega) hb9 ?_))
      intro vv a10 ho hq hg
      obtain ⟨v10, c10, hv⟩ := owns_shape ho
      subst hv
      have Ba10 : Below w3.heap.size w3 a10 := Ba9.grown hg hb9 (fun q hq => (HV9.out.lt q hq).1)
      have HV10 : Hid (a10.ownsRow w3.heap.size 5 1 (.slice v10 (20 + LO) c10) (20 + LO) ((toI (((((((((([]) ++ byN 2 SP) ++ byN 2 DP) ++ byN 4 SQ) ++ byN 4 AK) ++ byN 1 ((20 + LO) / 4 * 16)) ++ byN 1 FL) ++ byN 2 WI) ++ byN 2 0) ++ byN 2 UR)).map (Value.int .u8) ++ (toI OL).map (Value.int .u8))) := ho
      clear ho hq hg HV9 hb9 HPG
      have q := (C0.out a10 Ba10).2.2.2.2.2.2.2
      have HSG : Hid (Seg .u8 a10 da (toI t.d)) := HD.out.d.seg.old (belw3.trans (Ba10.mono belw3.size))
      have hb10 := Ba10.size
      go_wp2_with (first | (at_builtin; refine append_split_seg rfl (.tmp 70) (.tmp 72) 28 rfl w3.heap.size 5 i0 (.int .u8 0) 1 Tryz.underlying28 hi hz0 hz1 hz2 rfl (.slice v10 (20 + LO) c10) (20 + LO) _ rfl HV10.out .u8 da n c (toI t.d) rfl (by rw [toI_len]; exact HD.out.d.dl) HSG.out (by unfold maxLen; omega) (by omega) hb10 ?_))
      intro vv a11 ho hq hg
      obtain ⟨v5, c5, hv⟩ := owns_shape ho
      subst hv
      have Ba5 : Below w3.heap.size w3 a11 := Ba10.grown hg hb10 (fun q hq => (HV10.out.lt q hq).1)
      have HV5 : Hid (a11.ownsRow w3.heap.size 5 1 (.slice v5 (20 + LO + n) c5) (20 + LO + n) ((toI (L4.tHd t 0 ++ L4.tRest t)).map (Value.int .u8))) := by
        have e : L4.tHd t 0 ++ L4.tRest t = ((((((((((([]) ++ byN 2 SP) ++ byN 2 DP) ++ byN 4 SQ) ++ byN 4 AK) ++ byN 1 ((20 + LO) / 4 * 16)) ++ byN 1 FL) ++ byN 2 WI) ++ byN 2 0) ++ byN 2 UR) ++ OL) ++ t.d := by
          rw [by2 SP hb.1, by2 DP hb.2.1, by2 WI hb.2.2.2.2.2.1, by2 UR hb.2.2.2.2.2.2, by2 0 (by omega), by4 SQ hb.2.2.1, by4 AK hb.2.2.2.1, by1 FL hb.2.2.2.2.1, by1 ((20 + LO) / 4 * 16) (by omega)]
          rw [L4.tRest, ← HPU.out.1]
          simp [L4.tHd, L4.tHs, HNN.out.1, HNN.out.2.1, HNN.out.2.2.1, HNN.out.2.2.2.1, HNN.out.2.2.2.2.1, HNN.out.2.2.2.2.2.1, HNN.out.2.2.2.2.2.2, ← HPU.out.1, HOL.out.1]
        rw [e]
        have e2 : (toI (((((((((((([]) ++ byN 2 SP) ++ byN 2 DP) ++ byN 4 SQ) ++ byN 4 AK) ++ byN 1 ((20 + LO) / 4 * 16)) ++ byN 1 FL) ++ byN 2 WI) ++ byN 2 0) ++ byN 2 UR) ++ OL) ++ t.d)).map (Value.int .u8) = ((toI (((((((((([]) ++ byN 2 SP) ++ byN 2 DP) ++ byN 4 SQ) ++ byN 4 AK) ++ byN 1 ((20 + LO) / 4 * 16)) ++ byN 1 FL) ++ byN 2 WI) ++ byN 2 0) ++ byN 2 UR)).map (Value.int .u8) ++ (toI OL).map (Value.int .u8)) ++ (toI t.d).map (Value.int .u8) := by simp [toI]
        rw [e2]
        exact ho
      clear ho hq hg HV10 q HSG hb10
      have h256 : ∀ z ∈ L4.tHd t 0 ++ L4.tRest t, z < 256 := by
        intro z hz
        rcases List.mem_append.1 hz with h | h
        · simp only [L4.tHd, L4.tHs, HNN.out.1, HNN.out.2.1, HNN.out.2.2.1, HNN.out.2.2.2.1, HNN.out.2.2.2.2.1, HNN.out.2.2.2.2.2.1, HNN.out.2.2.2.2.2.2, ← HPU.out.1, HOL.out.1, List.mem_cons, List.not_mem_nil, or_false] at h
          rcases h with rfl | rfl | rfl | rfl | rfl | rfl | rfl | rfl | rfl | rfl | rfl | rfl | rfl | rfl | rfl | rfl | rfl | rfl | rfl | rfl <;> omega
        · rcases List.mem_append.1 h with h | h
          · rw [← HPU.out.1] at h; exact HOL.out.2 z h
          · exact HD.out.d.d256 z h
      have HX5 : Hid (Boxed a11 B V x) := HX2.out.old Ba5
      have HY5 : Hid (Boxed a11 (B + 1) U y) := HY2.out.old Ba5
      have QS : Hid _ := rsummed_any V U x y 6 v5 (20 + LO + n) c5 (L4.tHd t 0 ++ L4.tRest t) a11 HPS.out (by omega) hn HX.out HY.out (own_dok HV5.out h256 (by omega))
      obtain ⟨s2, hS⟩ : ∃ s2 : Nat, s2 = 65535 - S.fold (S.wv false (psL V U x y (6 : Nat) (20 + LO + n : Nat) ++ (L4.tHd t 0 ++ L4.tRest t))) := ⟨_, rfl⟩
      rw [← hS] at QS
      have hs5 : s2 ≤ 65535 := by omega
      have HSUM : Hid (L4.tSum t (psL V U x y 6 ((20 + (I4.putO t.os).length + n : Nat) : Int)) = s2) := by rw [hS, ← HPU.out.1, HOL.out.1]; rfl
      have HFE : Hid ((wT9 V U x y t n).length = 20 + LO + n) := by show _ = _; rw [HUL.out, L4.tSer_len, HD.out.d.dl, ← HPU.out.1, HOL.out.1]
      clear h256 hS
      go_wp2_with (first | (refine wpList_load_ip (.tmp 3) rfl B V x rfl HX5.out rfl ?_) | (refine wpList_load_ip (.tmp 4) rfl (B + 1) U y rfl HY5.out rfl ?_))
      refine Calls.mono QS.out ?_
      rintro e a6 ⟨rfl, hb6⟩
      have Ba6 : Below w3.heap.size w3 a6 := Ba5.trans (hb6.mono Ba5.size)
      have HV6 : Hid (a6.ownsRow w3.heap.size 5 1 (.slice v5 (20 + LO + n) c5) (20 + LO + n) ((toI (L4.tHd t 0 ++ L4.tRest t)).map (Value.int .u8))) := own_dn hb6 HV5.out
      clear QS hb6 HV5 HX5 HY5 C0 HX2 HY2
      have HSL : Hid ((L4.tHd t 0 ++ L4.tRest t).length = 20 + LO + n) := by show _ = _; have := HV6.out.1; rw [List.length_map, toI_len] at this; omega
      obtain ⟨g5, hg5⟩ : ∃ g, v5 = some ⟨g, 0, none⟩ := by
        rcases HV6.out.2 with ⟨_, e2⟩ | ⟨g, cap, cur, e1, _⟩
        · omega
        · simp only [Value.slice.injEq, true_and] at e1
          exact ⟨g, e1.1⟩
      subst hg5
      obtain ⟨z6, k6⟩ : ∃ z, a6.cell? ⟨g5, 16, none⟩ = some z := by
        rw [HV6.out.cellAt 16 (by omega)]
        exact ⟨_, List.getElem?_eq_getElem (by rw [List.length_map, toI_len, HSL.out]; omega)⟩
      obtain ⟨z7, k7⟩ : ∃ z, a6.cell? ⟨g5, 17, none⟩ = some z := by
        rw [HV6.out.cellAt 17 (by omega)]
        exact ⟨_, List.getElem?_eq_getElem (by rw [List.length_map, toI_len, HSL.out]; omega)⟩
      have f6 := HV6.out.frozenAt 16
      have f7 := HV6.out.frozenAt 17
      have st1 := (HV6.out.stored 16 (.int .u8 ((s2 / 256 : Nat) : Int))).1
      have st2 := (st1.stored 17 (.int .u8 ((s2 % 256 : Nat) : Int))).1
      have HST : Hid (((a6.setCell ⟨g5, 16, none⟩ (.int .u8 ((s2 / 256 : Nat) : Int))).setCell ⟨g5, 17, none⟩ (.int .u8 ((s2 % 256 : Nat) : Int))).ownsRow w3.heap.size 5 1 (.slice (some ⟨g5, 0, none⟩) (20 + LO + n) c5) (20 + LO + n) ((toI (L4.tHd t s2 ++ L4.tRest t)).map (Value.int .u8))) := by
        have e : (((toI (L4.tHd t 0 ++ L4.tRest t)).map (Value.int .u8)).set 16 (.int .u8 ((s2 / 256 : Nat) : Int))).set 17 (.int .u8 ((s2 % 256 : Nat) : Int)) = (toI (L4.tHd t s2 ++ L4.tRest t)).map (Value.int .u8) := by
          simp [toI, L4.tHd]
        rw [e] at st2
        exact st2
      have HBE : Hid (Below w3.heap.size w3 ((a6.setCell ⟨g5, 16, none⟩ (.int .u8 ((s2 / 256 : Nat) : Int))).setCell ⟨g5, 17, none⟩ (.int .u8 ((s2 % 256 : Nat) : Int)))) := by
        have hgb := (HV6.out.lt g5 rfl).1
        exact Ba6.trans ((((Ch.refl (fun q => q = g5) a6).set ⟨g5, 16, none⟩ _ rfl).set ⟨g5, 17, none⟩ _ rfl).below (fun x q => by have e' : x = g5 := q; omega) Ba6.size)
      have HSER : Hid (wT9 V U x y t n = L4.tHd t s2 ++ L4.tRest t) := by show _ = _; rw [HUL.out, L4.tSer, HSUM.out]
      have d1 : ((s2 / 256 : Nat) : Int) = (s2 : Int) / 256 := by omega
      have d2 : ((s2 % 256 : Nat) : Int) = (s2 : Int) % 256 := by omega
      rw [d1, d2] at HST HBE
      have u1 : IntKind.u8.wrap ((s2 : Int) / 256) = (s2 : Int) / 256 := by rw [IntKind.wrap_u8]; omega
      have u2 : IntKind.u8.wrap ((s2 : Int) % 256) = (s2 : Int) % 256 := by rw [IntKind.wrap_u8]; omega
      clear st1 st2 HV6 d1 d2 hb
      go_wp2
      go_ret2
      refine ⟨some ⟨g5, 0, none⟩, c5, ?_, belw3.trans (HBE.out.mono belw3.size), ?_⟩
      · rw [HFE.out]; rfl
      · rw [HFE.out, HSER.out]; exact owns_le HST.out belw3.size
end Go.Proofs.YtfoeepbndfnifaaGreatDoor
