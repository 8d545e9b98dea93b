/-
  Check.
-/
import Derived.Test.YtdinhgfkpjaipaaDoorI4Parse
namespace Go.Proofs.YtdinhgfkpjaipaaDoor
open Go.RowKit
open I4 (H4)

/-- what is told of a datagram's value that lies in memory -/
structure H4Ok (w : World) (h : H4) (la : Option Addr) (ln lc : Nat) (os : List OpV) (da : Option Addr) (n c : Nat) : Prop where
  sx : ∀ i, i < 16 → h.sx i < 256
  dx : ∀ i, i < 16 → h.dx i < 256
  ol : os.length = ln
  opts : OptsAt w la os
  hos : h.os = vals os
  on : ln ≤ 9223372036854775806
  dl : h.data.length = n
  seg : Seg .u8 w da (toI h.data)
  d256 : ∀ x ∈ h.data, x < 256
  cap : n ≤ c
  cm : c ≤ 9223372036854775807
  dn : n ≤ 4611686018427387904
theorem H4Ok.old {w w' : World} {h : H4} {la : Option Addr} {ln lc : Nat} {os : List OpV} {da : Option Addr} {n c : Nat} (k : H4Ok w h la ln lc os da n c) (hb : Below w.heap.size w w') : H4Ok w' h la ln lc os da n c :=
  ⟨k.sx, k.dx, k.ol, k.opts.old hb, k.hos, k.on, k.dl, k.seg.old hb, k.d256, k.cap, k.cm, k.dn⟩
set_option maxHeartbeats 1600000 in
set_option maxRecDepth 100000 in
theorem check_any' (h : H4) (la : Option Addr) (ln lc : Nat) (os : List OpV) (da : Option Addr) (n c : Nat) (w : World) (k : H4Ok w h la ln lc os da n c) :
    Calls Tryd.prog 23 #[.agg (h4C h (.slice la ln lc) (.slice da n c))] w fun e w' => e = .returned (.int .i64 (I4.chk h : Nat)) ∧ Below w.heap.size w w' := by
  obtain ⟨W, hW⟩ : ∃ W, W = w.alloc (.cells (h4C h (.slice la ln lc) (.slice da n c)) 28) := ⟨_, rfl⟩
  obtain ⟨O, hO⟩ : ∃ O, O = w.heap.size := ⟨_, rfl⟩
  have bel : Below w.heap.size w W := by rw [hW]; exact (Below.refl _ _).alloc (Nat.le_refl _) _
  have HB : Hid (H4At W O h (.slice la ln lc) (.slice da n c)) := by rw [hW, hO]; exact h4At_new _ _ _ _
  obtain ⟨C, hC⟩ : ∃ C, C = h4C h (.slice la ln lc) (.slice da n c) := ⟨_, rfl⟩
  have HW : Hid (w.alloc (.cells C 28) = W) := by rw [hC]; exact hW.symm
  have HO : Hid (w.heap.size = O) := hO.symm
  rw [← hC]
  have HK : Hid (H4Ok w h la ln lc os da n c) := k
  have hdn := k.dn
  obtain ⟨R, hR⟩ : ∃ R, R = I4.chk h := ⟨_, rfl⟩
  rw [← hR]
  have HR : Hid (R = I4.chk h) := hR
  clear hW hC hO k hR
  go_enter Tryd.func23, Tryd.ntmps23
  go_upto_region 1 with fail
  rw [HW.out, HO.out]
  go_wp2_with (first | (refine wpList_load_h4 _ rfl O h (.slice la ln lc) (.slice da n c) rfl HB.out rfl ?_))
  refine Calls.mono (fieldsMay_any h _ _ W HK.out.sx HK.out.dx) ?_
  rintro e w1 ⟨rfl, hb1⟩
  have bel1 := bthen bel hb1
  have HB1 : Hid (H4At w1 O h (.slice la ln lc) (.slice da n c)) := H4At.below HB.out hb1
  clear hb1 HB HW
  cases e1 : I4.fieldsOk h with
  | false =>
    have HF : Hid (R = 68) := by show _ = _; rw [HR.out]; unfold I4.chk; rw [if_pos (by rw [e1]; rfl)]
    clear e1
    go_wp2
    go_ret
    exact ⟨by rw [HF.out]; rfl, bel1⟩
  | true =>
  have HE1 : Hid (I4.fieldsOk h = true) := e1
  have g41 := HB1.out.c41
  have QP : Hid _ := putOptions_any la ln lc os w1 HK.out.ol (HK.out.old bel1).opts HK.out.on
  clear e1
  go_wp2_with fail
  refine Calls.mono QP.out ?_
  rintro e w2 ⟨v, er, rfl, hb2, hres⟩
  have bel2 := bthen bel1 hb2
  have HB2 : Hid (H4At w2 O h (.slice la ln lc) (.slice da n c)) := H4At.below HB1.out hb2
  clear QP g41 hb2 HB1
  rcases hres with ⟨hok, rfl, g, rfl, hown⟩ | ⟨hno, rfl, rfl⟩
  case inr =>
    have HF : Hid (R = 65) := by show _ = _; rw [HR.out]; unfold I4.chk; rw [if_neg (by rw [HE1.out]; simp), HK.out.hos, if_pos (by rw [hno]; rfl)]
    clear hno
    go_wp2
    go_ret
    exact ⟨by rw [HF.out]; rfl, bel2⟩
  have HOK : Hid (I4.putOk h.os = true) := by show _ = _; rw [HK.out.hos]; exact hok
  obtain ⟨L, hL⟩ : ∃ L, L = (I4.putO (vals os)).length := ⟨_, rfl⟩
  have hL40 : L ≤ 40 := by rw [hL]; exact (I4.put_len _).1
  have HL : Hid (L = (I4.putO h.os).length) := by show _ = _; rw [HK.out.hos]; exact hL
  rw [← hL]
  have g42 := HB2.out.c42
  have q1 : IntKind.i64.wrap (20 + (L : Int)) = 20 + (L : Int) := by rw [IntKind.wrap_i64]; omega
  have q2 : IntKind.i64.wrap (20 + (L : Int) + (n : Int)) = 20 + (L : Int) + (n : Int) := by rw [IntKind.wrap_i64]; omega
  clear hok hL hown
  by_cases e3 : 65535 < 20 + L + n
  · have HF : Hid (R = 63) := by
      show _ = _; rw [HR.out]; unfold I4.chk
      rw [if_neg (by rw [HE1.out]; simp), if_neg (by rw [HOK.out]; simp), if_pos (by rw [← HL.out, HK.out.dl]; exact e3)]
    have b3 : (65535 : Int) < 20 + (L : Int) + (n : Int) := by omega
    clear e3
    go_wp2
    go_ret
    exact ⟨by rw [HF.out]; rfl, bel2⟩
  · have b3 : ¬ (65535 : Int) < 20 + (L : Int) + (n : Int) := by omega
    have HE3 : Hid (¬ 65535 < 20 + (I4.putO h.os).length + h.data.length) := by rw [← HL.out, HK.out.dl]; exact e3
    have hn40 : n ≤ 1099511627776 := by omega
    have hoff : 0 ≤ h.off ∧ h.off ≤ 65528 := by
      have := HE1.out
      simp only [I4.fieldsOk, I4.within, Bool.and_eq_true, decide_eq_true_eq] at this
      exact this.1.1.1.1.1.2
    have HQ : Hid (∀ A, Calls Tryd.prog 56 #[.agg (h4C h (.slice la ln lc) (.slice da n c))] A fun e w' => e = .returned (.bool (I4.fragOk h.mf h.off n)) ∧ Below A.heap.size A w') := fun A => fragMay_any h (.slice la ln lc) da n c A hoff hn40
    clear e3 hoff hn40
    go_wp2_with (first | (refine wpList_load_h4 _ rfl O h (.slice la ln lc) (.slice da n c) rfl HB2.out rfl ?_))
    refine Calls.mono (HQ.out _) ?_
    rintro e w3 ⟨rfl, hb3⟩
    have bel3 := bthen bel2 hb3
    clear hb3
    cases e4 : I4.fragOk h.mf h.off n with
    | false =>
      have HF : Hid (R = 66) := by
        show _ = _; rw [HR.out]; unfold I4.chk
        rw [if_neg (by rw [HE1.out]; simp), if_neg (by rw [HOK.out]; simp), if_neg HE3.out, if_pos (by rw [HK.out.dl, e4]; rfl)]
      clear e4
      go_wp2
      go_ret
      exact ⟨by rw [HF.out]; rfl, bel3⟩
    | true =>
      have HF : Hid (R = 0) := by
        show _ = _; rw [HR.out]; unfold I4.chk
        rw [if_neg (by rw [HE1.out]; simp), if_neg (by rw [HOK.out]; simp), if_neg HE3.out, if_neg (by rw [HK.out.dl, e4]; simp)]
      clear e4
      go_wp2
      go_ret
      exact ⟨by rw [HF.out]; rfl, bel3⟩
end Go.Proofs.YtdinhgfkpjaipaaDoor
