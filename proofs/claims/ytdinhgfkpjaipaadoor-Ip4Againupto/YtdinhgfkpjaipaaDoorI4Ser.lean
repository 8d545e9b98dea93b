/-
  Serialise.
-/
import Derived.Test.YtdinhgfkpjaipaaDoorI4Check
namespace Go.Proofs.YtdinhgfkpjaipaaDoor
open Go.RowKit
open I4 (H4)

theorem parts_three (W : World) (S : Nat → Prop) (N : Nat) (p1 p2 p3 : PV) (h1 : W.cell? ⟨N, 0, none⟩ = some (.slice p1.a p1.bs.length p1.cap)) (h2 : W.cell? ⟨N, 1, none⟩ = some (.slice p2.a p2.bs.length p2.cap)) (h3 : W.cell? ⟨N, 2, none⟩ = some (.slice p3.a p3.bs.length p3.cap))
    (s1 : Seg .u8 W p1.a (toI p1.bs)) (s2 : Seg .u8 W p2.a (toI p2.bs)) (s3 : Seg .u8 W p3.a (toI p3.bs)) (hN : ¬ S N)
    (d1 : ∀ z, toI p1.bs ≠ [] → p1.a = some z → ¬ S z.block) (d2 : ∀ z, toI p2.bs ≠ [] → p2.a = some z → ¬ S z.block) (d3 : ∀ z, toI p3.bs ≠ [] → p3.a = some z → ¬ S z.block) : PartsAt W S (some ⟨N, 0, none⟩) [p1, p2, p3] := by
  refine .inr ⟨N, 0, rfl, hN, World.block_lt_of_cell? W _ h1, fun i p hp => ?_⟩
  match i, hp with
  | 0, hp => simp at hp; subst hp; exact ⟨h1, s1, d1⟩
  | 1, hp => simp at hp; subst hp; exact ⟨h2, s2, d2⟩
  | 2, hp => simp at hp; subst hp; exact ⟨h3, s3, d3⟩
  | i + 3, hp => simp at hp
theorem spl_head (h : H4) (hd tl s : Nat) (r : List Nat) (hs : s ≤ 65535) : spl (I4.hlist h hd tl 0 ++ r) 10 (byN 2 s) = I4.hlist h hd tl s ++ r := by
  have e : byN 2 s = [s / 256, s % 256] := by
    simp only [byN, List.range_succ, List.range_zero, List.nil_append, List.map_cons, List.map_nil, List.cons_append]
    simp
    omega
  rw [e]
  simp [spl, I4.hlist]
theorem seg_blk {w : World} {k : IntKind} {a : Option Addr} {zs : List Int} (h : Seg k w a zs) (z : Addr) (hz : zs ≠ []) (ha : a = some z) : z.block < w.heap.size := by
  rcases h with h0 | ⟨g, f, e, hc⟩
  · exact absurd h0 hz
  · rw [ha] at e
    have := Option.some.inj e
    subst this
    exact World.block_lt_of_cell? w _ (hc 0 (List.length_pos_iff.2 hz))
theorem flatO_256 (l : List I4.OV) (h1 : ∀ o ∈ l, o.1 < 256 ∧ o.2.length ≤ 38) (h2 : ∀ o ∈ l, ∀ x ∈ o.2, x < 256) : ∀ x ∈ I4.flatO l, x < 256 := by
  induction l with
  | nil => intro x hx; cases hx
  | cons o l ih =>
    intro x hx
    have a := h1 o (by simp)
    simp only [I4.flatO, List.mem_cons, List.mem_append] at hx
    rcases hx with rfl | rfl | hx | hx
    · exact a.1
    · omega
    · exact h2 o (by simp) x hx
    · exact ih (fun o ho => h1 o (by simp [ho])) (fun o ho => h2 o (by simp [ho])) x hx
theorem put_256 (l : List (Int × List Nat)) (h2 : ∀ o ∈ l, ∀ x ∈ o.2, x < 256) : ∀ x ∈ I4.putO l, x < 256 := by
  unfold I4.putO
  split
  · rename_i hp
    simp only [I4.putOk, Bool.and_eq_true, List.all_eq_true] at hp
    intro x hx
    unfold I4.pad4 at hx
    rcases List.mem_append.1 hx with hx | hx
    · refine flatO_256 (l.map I4.natO) ?_ ?_ x hx
      · intro o ho
        obtain ⟨y, hy, rfl⟩ := List.mem_map.1 ho
        have := hp.1 y hy
        simp only [I4.okO, Bool.and_eq_true, decide_eq_true_eq] at this
        simp only [I4.natO]
        omega
      · intro o ho
        obtain ⟨y, hy, rfl⟩ := List.mem_map.1 ho
        exact h2 y hy
    · rw [List.mem_replicate] at hx; omega
  · intro x hx; cases hx
theorem opts_256 {w : World} {la : Option Addr} {os : List OpV} (h : OptsAt w la os) : ∀ o ∈ vals os, ∀ x ∈ o.2, x < 256 := by
  intro o ho
  obtain ⟨y, hy, rfl⟩ := List.mem_map.1 ho
  obtain ⟨i, hi⟩ := List.mem_iff_getElem?.1 hy
  obtain ⟨_, _, _, _, hok, _, _⟩ := h.at i y hi
  exact hok.h256
theorem part_ch {S : Nat → Prop} {A B : World} {p : Part} (h : p.ok A) (k : Ch S A B) (hS : ∀ z, toI p.l ≠ [] → p.a = some z → ¬ S z.block) : p.ok B := ⟨k.seg h.1 hS, h.2⟩
def SerRes (w : World) (h : H4) (v : Value) (w' : World) : Prop :=
  (I4.chk h = 0 ∧ ∃ g, v = .slice (some ⟨g, 0, none⟩) (I4.ser h).length (I4.ser h).length ∧ w'.ownsRow w.heap.size 5 1 v (I4.ser h).length ((toI (I4.ser h)).map (Value.int .u8))) ∨ (I4.chk h ≠ 0 ∧ v = .slice none 0 0)
theorem hdOk_of (h : H4) (m : I4.May h) (hs : ∀ i, i < 16 → h.sx i < 256) (hd : ∀ i, i < 16 → h.dx i < 256) : HdOk h (I4.serHd h) (I4.serTl h) := by
  have hb := I4.hd_bounds h
  refine ⟨hb.1, hb.2.1, hb.2.2, ?_, m.tos, m.id, m.off, m.ttl, m.proto, hs, hd⟩
  have := m.tot
  simp only [I4.serTl, I4.serHd]
  omega
set_option maxHeartbeats 3200000 in
set_option maxRecDepth 100000 in
theorem serialise_any (h : H4) (la : Option Addr) (ln lc : Nat) (os : List OpV) (da : Option Addr) (n c : Nat) (w : World) (hw : Wid w) (k : H4Ok w h la ln lc os da n c) :
    Calls Tryd.prog 18 #[.agg (h4C h (.slice la ln lc) (.slice da n c))] w fun e w' => ∃ v, e = .returned (.tuple #[v, .int .i64 (I4.chk h : Nat)]) ∧ Below w.heap.size w w' ∧ SerRes w h v w' := by
  obtain ⟨W, hW⟩ : ∃ W, W = w.alloc (.cells (h4C h (.slice la ln lc) (.slice da n c)) 28) := ⟨_, rfl⟩
  obtain ⟨O, hO⟩ : ∃ O, O = w.heap.size := ⟨_, rfl⟩
  have bel : Below w.heap.size w W := by rw [hW]; exact (Below.refl _ _).alloc (Nat.le_refl _) _
  have HB : Hid (H4At W O h (.slice la ln lc) (.slice da n c)) := by rw [hW, hO]; exact h4At_new _ _ _ _
  obtain ⟨C, hC⟩ : ∃ C, C = h4C h (.slice la ln lc) (.slice da n c) := ⟨_, rfl⟩
  have HW : Hid (w.alloc (.cells C 28) = W) := by rw [hC]; exact hW.symm
  have HO : Hid (w.heap.size = O) := hO.symm
  rw [← hC]
  have HK : Hid (H4Ok w h la ln lc os da n c) := k
  have HWID : Hid (∀ A, Below w.heap.size w A → Wid A) := fun A hA => hw.old hA
  have QC : Hid _ := check_any' h la ln lc os da n c W (k.old bel)
  obtain ⟨R, hR⟩ : ∃ R, R = I4.chk h := ⟨_, rfl⟩
  rw [← hR] at QC ⊢
  have HR : Hid (R = I4.chk h) := hR
  clear hW hC hO k hR hw
  by_cases hz : R = 0
  case neg =>
    have b1 : ((R : Int) != 0) = true := by rw [bne_iff_ne]; omega
    have HZ : Hid (I4.chk h ≠ 0) := by rw [← HR.out]; exact hz
    clear hz
    go_enter Tryd.func18, Tryd.ntmps18
    go_upto_region 1 with fail
    rw [HW.out, HO.out]
    go_wp2_with (first | (refine wpList_load_h4 _ rfl O h (.slice la ln lc) (.slice da n c) rfl HB.out rfl ?_))
    refine Calls.mono QC.out ?_
    rintro e w1 ⟨rfl, hb1⟩
    have bel1 := bthen bel hb1
    clear hb1
    go_wp2
    go_ret2
    exact ⟨_, rfl, bel1, .inr ⟨HZ.out, rfl⟩⟩
  have HM : Hid (I4.May h) := (I4.chk_zero h).1 (by rw [← HR.out]; exact hz)
  have HZ : Hid (I4.chk h = 0) := by show _ = _; rw [← HR.out]; exact hz
  subst hz
  go_enter Tryd.func18, Tryd.ntmps18
  go_upto_region 1 with fail
  rw [HW.out, HO.out]
  go_wp2_with (first | (refine wpList_load_h4 _ rfl O h (.slice la ln lc) (.slice da n c) rfl HB.out rfl ?_))
  refine Calls.mono QC.out ?_
  rintro e w1 ⟨rfl, hb1⟩
  have bel1 := bthen bel hb1
  have HB1 : Hid (H4At w1 O h (.slice la ln lc) (.slice da n c)) := H4At.below HB.out hb1
  have g41 := HB1.out.c41
  have QP : Hid _ := putOptions_any la ln lc os w1 HK.out.ol (HK.out.old bel1).opts HK.out.on
  clear hb1 HB HW QC
  go_wp2_with fail
  refine Calls.mono QP.out ?_
  rintro e w2 ⟨v, er, rfl, hb2, hres⟩
  have bel2 := bthen bel1 hb2
  have HB2 : Hid (H4At w2 O h (.slice la ln lc) (.slice da n c)) := H4At.below HB1.out hb2
  clear QP g41 hb2 HB1
  rcases hres with ⟨_, rfl, g, rfl, hown⟩ | ⟨hno, _, _⟩
  case inr =>
    have := HM.out.opt
    rw [HK.out.hos, hno] at this
    cases this
  obtain ⟨ob, hob⟩ : ∃ ob, ob = I4.putO (vals os) := ⟨_, rfl⟩
  rw [← hob] at hown ⊢
  have HOB : Hid (I4.putO h.os = ob) := by show _ = _; rw [HK.out.hos]; exact hob.symm
  obtain ⟨L, hL⟩ : ∃ L, L = ob.length := ⟨_, rfl⟩
  have hL40 : L ≤ 40 := by rw [hL, hob]; exact (I4.put_len _).1
  rw [← hL] at hown ⊢
  have HL : Hid (L = ob.length) := hL
  have HOW2 : Hid (w2.ownsRow w1.heap.size 5 1 (.slice (some ⟨g, 0, none⟩) L L) L ((toI ob).map (Value.int .u8))) := hown
  have hdn : 20 + L + n ≤ 65535 := by have := HM.out.tot; rw [HOB.out, ← hL, HK.out.dl] at this; exact this
  have g42 := HB2.out.c42
  have q1 : IntKind.i64.wrap (20 + (L : Int)) = 20 + (L : Int) := by rw [IntKind.wrap_i64]; omega
  have q2 : IntKind.i64.wrap (20 + (L : Int) + (n : Int)) = 20 + (L : Int) + (n : Int) := by rw [IntKind.wrap_i64]; omega
  have QN : Hid _ := newB_ok (20 + L + n) w2 hdn
  have e1 : ((20 + L + n : Nat) : Int) = 20 + (L : Int) + (n : Int) := by omega
  rw [e1] at QN
  have HSH : Hid (I4.serHd h = 20 + L) := by show _ = _; rw [I4.serHd, HOB.out, HL.out]
  have HST : Hid (I4.serTl h = 20 + L + n) := by show _ = _; rw [I4.serTl, HSH.out, HK.out.dl]
  clear hob hown hL e1
  go_wp2_with fail
  refine Calls.mono QN.out ?_
  rintro e w3 ⟨rfl, hB3, hw3⟩
  have hb3 : Below w2.heap.size w2 w3 := by rw [hw3]; exact (Below.refl _ _).alloc (Nat.le_refl _) _
  have bel3 := bthen bel2 hb3
  have HB3 : Hid (H4At w3 O h (.slice la ln lc) (.slice da n c)) := H4At.below HB2.out hb3
  have HS3 : Hid (w3.heap.size = w2.heap.size + 1) := by show _ = _; rw [hw3]; simp
  obtain ⟨B, hBB⟩ : ∃ B, B = w2.heap.size := ⟨_, rfl⟩
  rw [← hBB] at hB3 ⊢
  have HBB : Hid (B = w2.heap.size) := hBB
  have HBLD3 : Hid (Bld w3 B (.slice none 0 0) (20 + L + n) []) := hB3
  have HBEL23 : Hid (Below w2.heap.size w2 w3) := hb3
  have QT : Hid _ := putTogether_any h (.slice la ln lc) (.slice da n c) (20 + L) (20 + L + n) w3 (HWID.out w3 bel3) (by have := hdOk_of h HM.out HK.out.sx HK.out.dx; rw [HSH.out, HST.out] at this; exact this)
  have e2 : ((20 + L : Nat) : Int) = 20 + (L : Int) := by omega
  have e3 : ((20 + L + n : Nat) : Int) = 20 + (L : Int) + (n : Int) := by omega
  rw [e2, e3] at QT
  clear QN hw3 hB3 hBB e2 e3 hb3 HB2 g42
  go_wp2_with (first | (refine wpList_load_h4 _ rfl O h (.slice la ln lc) (.slice da n c) rfl HB3.out rfl ?_))
  refine Calls.mono QT.out ?_
  rintro e w4 ⟨v4, rfl, ho4, hb4⟩
  have bel4 := bthen bel3 hb4
  have HB4 : Hid (H4At w4 O h (.slice la ln lc) (.slice da n c)) := H4At.below HB3.out hb4
  obtain ⟨g4, c4, rfl, hc4a, hc4b⟩ := own_block ho4 (by decide)
  have hg4 : w3.heap.size ≤ g4 := (ho4.lt g4 rfl).1
  have g42 := HB4.out.c42
  obtain ⟨hl, hhl⟩ : ∃ hl, hl = I4.hlist h (20 + L) (20 + L + n) 0 := ⟨_, rfl⟩
  rw [← hhl] at ho4
  have HHL : Hid (hl = I4.hlist h (20 + L) (20 + L + n) 0) := hhl
  have HOW4 : Hid (w4.ownsRow w3.heap.size 5 1 (.slice (some ⟨g4, 0, none⟩) 20 c4) 20 ((toI hl).map (Value.int .u8))) := ho4
  have HHL20 : Hid (hl.length = 20) := by show _ = _; rw [hhl]; rfl
  have HBEL34 : Hid (Below w3.heap.size w3 w4) := hb4
  have HBLD4 : Hid (Bld w4 B (.slice none 0 0) (20 + L + n) []) := HBLD3.out.below hb4
  have HG4 : Hid (w3.heap.size ≤ g4) := hg4
  have HC4 : Hid (20 ≤ c4 ∧ c4 ≤ 9223372036854775807) := ⟨hc4a, hc4b⟩
  clear QT ho4 hb4 hhl hg4 HB3 hc4a hc4b
  go_wp2_with fail
  have hl256 : ∀ x ∈ hl, x < 256 := by
    intro x hx
    obtain ⟨i, hi⟩ := List.mem_iff_getElem?.1 hx
    have hok := hdOk_of h HM.out HK.out.sx HK.out.dx
    rw [HSH.out, HST.out] at hok
    have hi20 : i < 20 := by have := (List.getElem?_eq_some_iff.1 hi).1; have := HHL20.out; omega
    have := hlist_lt h _ _ hok i hi20
    rw [← HHL.out] at this
    simpa [List.getD, hi] using this
  have ob256 : ∀ x ∈ ob, x < 256 := by rw [← HOB.out, HK.out.hos]; exact put_256 _ (opts_256 HK.out.opts)
  have P1 : Part.ok w4 ⟨some ⟨g4, 0, none⟩, c4, hl⟩ := by
    obtain ⟨a', c', e, hs, _⟩ := owns_seg HOW4.out
    simp only [Value.slice.injEq, true_and] at e
    exact ⟨by rw [e.1]; exact hs, hl256, by show hl.length ≤ c4; rw [HHL20.out]; exact HC4.out.1, HC4.out.2⟩
  have P2 : Part.ok w4 ⟨some ⟨g, 0, none⟩, L, ob⟩ := by
    obtain ⟨a', c', e, hs, _⟩ := owns_seg HOW2.out
    simp only [Value.slice.injEq, true_and] at e
    refine ⟨?_, ob256, by show ob.length ≤ L; rw [← HL.out]; exact Nat.le_refl _, by show L ≤ _; omega⟩
    have h1 : Seg .u8 w2 (some ⟨g, 0, none⟩) (toI ob) := by rw [e.1]; exact hs
    exact (h1.old HBEL23.out).old HBEL34.out
  have P3 : Seg .u8 w4 da (toI h.data) := (HK.out.old bel4).seg
  have nb1 : ∀ z, toI hl ≠ [] → (some ⟨g4, 0, none⟩ : Option Addr) = some z → z.block ≠ B := by
    intro z _ hz
    have := Option.some.inj hz
    subst this
    have := HG4.out
    have := HS3.out
    have := HBB.out
    show g4 ≠ B
    omega
  have nb2 : ∀ z, toI ob ≠ [] → (some ⟨g, 0, none⟩ : Option Addr) = some z → z.block ≠ B := by
    intro z _ hz
    have := Option.some.inj hz
    subst this
    have := (HOW2.out.lt g rfl).2
    have := HBB.out
    show g ≠ B
    omega
  have nb3 : ∀ z, toI h.data ≠ [] → da = some z → z.block ≠ B := by
    intro z hz ha
    have := seg_blk HK.out.seg z hz ha
    have := bel2.size
    have := HBB.out
    omega
  have hBw : w.heap.size ≤ B := by have := bel2.size; have := HBB.out; omega
  have HP1 : Hid (Part.ok w4 ⟨some ⟨g4, 0, none⟩, c4, hl⟩) := P1
  have HP2 : Hid (Part.ok w4 ⟨some ⟨g, 0, none⟩, L, ob⟩) := P2
  have HP3 : Hid (Seg .u8 w4 da (toI h.data)) := P3
  have HNB1 : Hid _ := nb1
  have HNB2 : Hid _ := nb2
  have HNB3 : Hid _ := nb3
  have HBW : Hid (w.heap.size ≤ B) := hBw
  have BSB : ∀ x, BS B (.slice none 0 0) x → x = B := by
    intro x hx
    rcases hx with e | e
    · exact e
    · simp [Value.ownBlock] at e
  have HBSB : Hid _ := BSB
  have al4 : ∀ X, Below w4.heap.size w4 (w4.alloc X) := fun X => (Below.refl _ _).alloc (Nat.le_refl _) X
  refine Calls.mono (bytesB_ok B (.slice none 0 0) (20 + L + n) [] _ 3 [⟨some ⟨g4, 0, none⟩, c4, hl⟩, ⟨some ⟨g, 0, none⟩, L, ob⟩, ⟨da, c, h.data⟩] _ (HBLD4.out.below (al4 _)) (parts_three _ _ w4.heap.size _ _ _ (by rw [HHL20.out]; simp [go_sem]) (by rw [← HL.out]; simp [go_sem]) (by rw [HK.out.dl]; simp [go_sem]) (P1.1.old (al4 _)) (P2.1.old (al4 _)) (P3.old (al4 _)) (fun e => by have := HBSB.out _ e; have := HBLD4.out.lt; omega) (fun z hz ha e => HNB1.out z hz ha (HBSB.out _ e)) (fun z hz ha e => HNB2.out z hz ha (HBSB.out _ e)) (fun z hz ha e => HNB3.out z hz ha (HBSB.out _ e))) ?_ hdn (by simp)) ?_
  · simp only [flat, List.append_nil, List.length_append, List.length_nil]
    rw [HHL20.out, ← HL.out, HK.out.dl]
    omega
  rintro e w5 ⟨rfl, v5, hb5, hq5, hc5⟩
  have hc5' : Ch (fun x => x = B) _ w5 := hc5.mono (fun x _ hx => HBSB.out x hx)
  have e5 : [] ++ flat [⟨some ⟨g4, 0, none⟩, c4, hl⟩, ⟨some ⟨g, 0, none⟩, L, ob⟩, ⟨da, c, h.data⟩] = hl ++ (ob ++ h.data) := by simp [flat]
  rw [e5] at hb5
  have HBLD5 : Hid (Bld w5 B v5 (20 + L + n) (hl ++ (ob ++ h.data))) := hb5
  have bel5 : Below w.heap.size w w5 := (bel4.alloc bel4.size _).trans (hc5'.below (fun x hx => by have e' : x = B := hx; have := HBW.out; omega) (by simp; have := bel4.size; omega))
  have HP15 : Hid (Part.ok w5 ⟨some ⟨g4, 0, none⟩, c4, hl⟩) := part_ch (HP1.out.old (al4 _)) hc5' (fun z hz ha e => HNB1.out z hz ha e)
  have HP25 : Hid (Part.ok w5 ⟨some ⟨g, 0, none⟩, L, ob⟩) := part_ch (HP2.out.old (al4 _)) hc5' (fun z hz ha e => HNB2.out z hz ha e)
  have HN5 : Hid (∀ q, v5.ownBlock = some q → w.heap.size ≤ q) := by
    intro q hq
    rcases hq5 q hq with h1 | h1
    · simp [Value.ownBlock] at h1
    · have := bel4.size
      simp at h1
      omega
  clear hl256 ob256 P1 P2 P3 nb1 nb2 nb3 hBw BSB hb5 hq5 hc5 hc5' e5 HB4 g42 bel4 al4
  go_wp2_with fail
  refine Calls.mono (check_two w5 _ (some ⟨g4, 0, none⟩) (some ⟨g, 0, none⟩) 20 L c4 L hl ob rfl HHL20.out HL.out.symm HP15.out HP25.out (by omega)) ?_
  rintro e w6 ⟨rfl, hb6⟩
  have bel6 := bthen bel5 hb6
  obtain ⟨sm, hsm⟩ : ∃ sm, sm = 65535 - S.fold (S.wv false (hl ++ ob)) := ⟨_, rfl⟩
  have hsm2 : sm ≤ 65535 := by omega
  rw [← hsm]
  have HSM : Hid (sm = 65535 - S.fold (S.wv false (hl ++ ob))) := hsm
  have HBLD6 : Hid (Bld w6 B v5 (20 + L + n) (hl ++ (ob ++ h.data))) := HBLD5.out.below hb6
  have u64 : IntKind.u64.wrap (sm : Int) = (sm : Int) := by rw [IntKind.wrap_u64]; omega
  have QPA : Hid _ := patchB_total B v5 (20 + L + n) (hl ++ (ob ++ h.data)) 10 2 sm w6 HBLD6.out (by decide)
  have HLL : Hid ((hl ++ (ob ++ h.data)).length = 20 + L + n) := by show _ = _; rw [List.length_append, List.length_append, HHL20.out, ← HL.out, HK.out.dl]; omega
  have hte : tE 10 2 sm (hl ++ (ob ++ h.data)).length = 0 := by
    rw [HLL.out]
    unfold tE
    rw [if_neg (by omega), if_neg (by show ¬ 256 ^ 2 ≤ sm; omega), if_neg (by omega)]
  rw [tL, hte, if_pos rfl] at QPA
  have hsp : spl (hl ++ (ob ++ h.data)) (10 : Int).toNat (byN (2 : Int).toNat sm) = I4.ser h := by
    show spl _ 10 (byN 2 sm) = _
    rw [HHL.out, spl_head _ _ _ _ _ hsm2]
    unfold I4.ser I4.serSum
    rw [HSH.out, HST.out, HOB.out, HSM.out, HHL.out]
  rw [hsp] at QPA
  clear hb6 hsm hte hsp HBLD5 HP15 HP25
  go_wp2_with fail
  refine Calls.mono QPA.out ?_
  rintro e w7 ⟨rfl, v7, hb7, hq7, hc7⟩
  have bel7 : Below w.heap.size w w7 := bel6.trans (hc7.below (fun x hx => by
    rcases hx with e | e
    · rw [e]; exact HBW.out
    · exact HN5.out x e) bel6.size)
  have QD : Hid _ := doneB_any B v7 (20 + L + n) (I4.ser h) w7 hb7 (by rw [I4.ser_len, HST.out]; exact hdn)
  obtain ⟨T, hT⟩ : ∃ T, T = (I4.ser h).length := ⟨_, rfl⟩
  rw [← hT] at QD
  have HT : Hid (T = (I4.ser h).length) := hT
  clear hb7 hq7 hc7 QPA hT bel6
  go_wp2_with fail
  refine Calls.mono QD.out ?_
  rintro e w8 ⟨gd, rfl, ho8, hb8⟩
  have HF8 : Hid (Below w.heap.size w w8) := bthen bel7 hb8
  have HO8 : Hid _ := owns_le ho8 bel7.size
  clear ho8 hb8 QD bel7
  go_wp2
  go_ret2
  exact ⟨_, rfl, HF8.out, .inl ⟨HZ.out, gd, by rw [← HT.out]; rfl, by rw [← HT.out]; exact HO8.out⟩⟩
end Go.Proofs.YtdinhgfkpjaipaaDoor
