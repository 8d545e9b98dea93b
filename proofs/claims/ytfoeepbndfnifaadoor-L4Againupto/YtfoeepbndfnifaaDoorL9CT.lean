/-
  l4.fieldsMayBe, CheckTcp.
-/
import Derived.Test.YtfoeepbndfnifaaDoorL9One
namespace Go.Proofs.YtfoeepbndfnifaaDoor
open Go.RowKit
open L4 (U9 T9)

/-- a segment that lies in memory -/
structure TOk (w : World) (t : T9) (la : Option Addr) (ln : Nat) (os : List OpV) (da : Option Addr) (n c : Nat) : Prop where
  ov : vals os = t.os
  ol : os.length = ln
  oat : OptsAt w la os
  on : ln ≤ 1099511627776
  d : DOk w t.d da n c
theorem TOk.old {w w' : World} {t : T9} {la : Option Addr} {ln : Nat} {os : List OpV} {da : Option Addr} {n c : Nat} (h : TOk w t la ln os da n c) (hb : Below w.heap.size w w') : TOk w' t la ln os da n c := { h with oat := h.oat.old hb, d := h.d.old hb }
set_option maxHeartbeats 1600000 in
theorem fields9_any (t : T9) (la : Option Addr) (ln lc : Nat) (da : Option Addr) (n c : Nat) (w : World) :
    Calls Tryd.prog 75 #[.agg (tC t la ln lc da n c)] w fun e w' => e = .returned (.bool (L4.tOkF t)) ∧ Below w.heap.size w w' := by
  have bel : Below w.heap.size w (w.alloc (.cells (tC t la ln lc da n c) 45)) := (Below.refl _ _).alloc (Nat.le_refl _) _
  obtain ⟨sp, dp, sq, ak, fl, wi, ur, os, d⟩ := t
  unfold tC at bel ⊢
  simp only at bel ⊢
  cases h0 : L4.inB sp 65535 with
  | false =>
    have HE : Hid (L4.tOkF ⟨sp, dp, sq, ak, fl, wi, ur, os, d⟩ = false) := by show _ = _; unfold L4.tOkF; rw [h0]; simp
    go_enter Tryd.func75, Tryd.ntmps75
    go_wp2_with fail
    refine Calls.mono (in9_any sp 65535 _) ?_
    rintro e w1 ⟨rfl, rfl⟩
    go_wp2
    go_ret
    exact ⟨by rw [HE.out]; rfl, bel⟩
  | true =>
  cases h1 : L4.inB dp 65535 with
  | false =>
    have HE : Hid (L4.tOkF ⟨sp, dp, sq, ak, fl, wi, ur, os, d⟩ = false) := by show _ = _; unfold L4.tOkF; rw [h0, h1]; simp
    go_enter Tryd.func75, Tryd.ntmps75
    go_wp2_with fail
    refine Calls.mono (in9_any sp 65535 _) ?_
    rintro e w1 ⟨rfl, rfl⟩
    go_wp2_with fail
    refine Calls.mono (in9_any dp 65535 _) ?_
    rintro e w1 ⟨rfl, rfl⟩
    go_wp2
    go_ret
    exact ⟨by rw [HE.out]; rfl, bel⟩
  | true =>
  cases h2 : L4.inB sq 4294967295 with
  | false =>
    have HE : Hid (L4.tOkF ⟨sp, dp, sq, ak, fl, wi, ur, os, d⟩ = false) := by show _ = _; unfold L4.tOkF; rw [h0, h1, h2]; simp
    go_enter Tryd.func75, Tryd.ntmps75
    go_wp2_with fail
    refine Calls.mono (in9_any sp 65535 _) ?_
    rintro e w1 ⟨rfl, rfl⟩
    go_wp2_with fail
    refine Calls.mono (in9_any dp 65535 _) ?_
    rintro e w1 ⟨rfl, rfl⟩
    go_wp2_with fail
    refine Calls.mono (in9_any sq 4294967295 _) ?_
    rintro e w1 ⟨rfl, rfl⟩
    go_wp2
    go_ret
    exact ⟨by rw [HE.out]; rfl, bel⟩
  | true =>
  cases h3 : L4.inB ak 4294967295 with
  | false =>
    have HE : Hid (L4.tOkF ⟨sp, dp, sq, ak, fl, wi, ur, os, d⟩ = false) := by show _ = _; unfold L4.tOkF; rw [h0, h1, h2, h3]; simp
    go_enter Tryd.func75, Tryd.ntmps75
    go_wp2_with fail
    refine Calls.mono (in9_any sp 65535 _) ?_
    rintro e w1 ⟨rfl, rfl⟩
    go_wp2_with fail
    refine Calls.mono (in9_any dp 65535 _) ?_
    rintro e w1 ⟨rfl, rfl⟩
    go_wp2_with fail
    refine Calls.mono (in9_any sq 4294967295 _) ?_
    rintro e w1 ⟨rfl, rfl⟩
    go_wp2_with fail
    refine Calls.mono (in9_any ak 4294967295 _) ?_
    rintro e w1 ⟨rfl, rfl⟩
    go_wp2
    go_ret
    exact ⟨by rw [HE.out]; rfl, bel⟩
  | true =>
  cases h4 : L4.inB fl 255 with
  | false =>
    have HE : Hid (L4.tOkF ⟨sp, dp, sq, ak, fl, wi, ur, os, d⟩ = false) := by show _ = _; unfold L4.tOkF; rw [h0, h1, h2, h3, h4]; simp
    go_enter Tryd.func75, Tryd.ntmps75
    go_wp2_with fail
    refine Calls.mono (in9_any sp 65535 _) ?_
    rintro e w1 ⟨rfl, rfl⟩
    go_wp2_with fail
    refine Calls.mono (in9_any dp 65535 _) ?_
    rintro e w1 ⟨rfl, rfl⟩
    go_wp2_with fail
    refine Calls.mono (in9_any sq 4294967295 _) ?_
    rintro e w1 ⟨rfl, rfl⟩
    go_wp2_with fail
    refine Calls.mono (in9_any ak 4294967295 _) ?_
    rintro e w1 ⟨rfl, rfl⟩
    go_wp2_with fail
    refine Calls.mono (in9_any fl 255 _) ?_
    rintro e w1 ⟨rfl, rfl⟩
    go_wp2
    go_ret
    exact ⟨by rw [HE.out]; rfl, bel⟩
  | true =>
  cases h5 : L4.inB wi 65535 with
  | false =>
    have HE : Hid (L4.tOkF ⟨sp, dp, sq, ak, fl, wi, ur, os, d⟩ = false) := by show _ = _; unfold L4.tOkF; rw [h0, h1, h2, h3, h4, h5]; simp
    go_enter Tryd.func75, Tryd.ntmps75
    go_wp2_with fail
    refine Calls.mono (in9_any sp 65535 _) ?_
    rintro e w1 ⟨rfl, rfl⟩
    go_wp2_with fail
    refine Calls.mono (in9_any dp 65535 _) ?_
    rintro e w1 ⟨rfl, rfl⟩
    go_wp2_with fail
    refine Calls.mono (in9_any sq 4294967295 _) ?_
    rintro e w1 ⟨rfl, rfl⟩
    go_wp2_with fail
    refine Calls.mono (in9_any ak 4294967295 _) ?_
    rintro e w1 ⟨rfl, rfl⟩
    go_wp2_with fail
    refine Calls.mono (in9_any fl 255 _) ?_
    rintro e w1 ⟨rfl, rfl⟩
    go_wp2_with fail
    refine Calls.mono (in9_any wi 65535 _) ?_
    rintro e w1 ⟨rfl, rfl⟩
    go_wp2
    go_ret
    exact ⟨by rw [HE.out]; rfl, bel⟩
  | true =>
  cases h6 : L4.inB ur 65535 with
  | false =>
    have HE : Hid (L4.tOkF ⟨sp, dp, sq, ak, fl, wi, ur, os, d⟩ = false) := by show _ = _; unfold L4.tOkF; rw [h0, h1, h2, h3, h4, h5, h6]; simp
    go_enter Tryd.func75, Tryd.ntmps75
    go_wp2_with fail
    refine Calls.mono (in9_any sp 65535 _) ?_
    rintro e w1 ⟨rfl, rfl⟩
    go_wp2_with fail
    refine Calls.mono (in9_any dp 65535 _) ?_
    rintro e w1 ⟨rfl, rfl⟩
    go_wp2_with fail
    refine Calls.mono (in9_any sq 4294967295 _) ?_
    rintro e w1 ⟨rfl, rfl⟩
    go_wp2_with fail
    refine Calls.mono (in9_any ak 4294967295 _) ?_
    rintro e w1 ⟨rfl, rfl⟩
    go_wp2_with fail
    refine Calls.mono (in9_any fl 255 _) ?_
    rintro e w1 ⟨rfl, rfl⟩
    go_wp2_with fail
    refine Calls.mono (in9_any wi 65535 _) ?_
    rintro e w1 ⟨rfl, rfl⟩
    go_wp2_with fail
    refine Calls.mono (in9_any ur 65535 _) ?_
    rintro e w1 ⟨rfl, rfl⟩
    go_wp2
    go_ret
    exact ⟨by rw [HE.out]; rfl, bel⟩
  | true =>
  have HE : Hid (L4.tOkF ⟨sp, dp, sq, ak, fl, wi, ur, os, d⟩ = true) := by show _ = _; unfold L4.tOkF; rw [h0, h1, h2, h3, h4, h5, h6]; rfl
  go_enter Tryd.func75, Tryd.ntmps75
  go_wp2_with fail
  refine Calls.mono (in9_any sp 65535 _) ?_
  rintro e w1 ⟨rfl, rfl⟩
  go_wp2_with fail
  refine Calls.mono (in9_any dp 65535 _) ?_
  rintro e w1 ⟨rfl, rfl⟩
  go_wp2_with fail
  refine Calls.mono (in9_any sq 4294967295 _) ?_
  rintro e w1 ⟨rfl, rfl⟩
  go_wp2_with fail
  refine Calls.mono (in9_any ak 4294967295 _) ?_
  rintro e w1 ⟨rfl, rfl⟩
  go_wp2_with fail
  refine Calls.mono (in9_any fl 255 _) ?_
  rintro e w1 ⟨rfl, rfl⟩
  go_wp2_with fail
  refine Calls.mono (in9_any wi 65535 _) ?_
  rintro e w1 ⟨rfl, rfl⟩
  go_wp2_with fail
  refine Calls.mono (in9_any ur 65535 _) ?_
  rintro e w1 ⟨rfl, rfl⟩
  go_wp2
  go_ret
  exact ⟨by rw [HE.out]; rfl, bel⟩
set_option maxHeartbeats 1600000 in
theorem chkT_any (t : T9) (la : Option Addr) (ln lc : Nat) (os : List OpV) (da : Option Addr) (n c : Nat) (w : World) (hw : LW w) (k : TOk w t la ln os da n c) :
    Calls Tryd.prog 49 #[.agg (tC t la ln lc da n c)] w fun e w' => e = .returned (.int .i64 ((L4.tChk t : Nat) : Int)) ∧ Below w.heap.size w w' := by
  have bel : Below w.heap.size w (w.alloc (.cells (tC t la ln lc da n c) 45)) := (Below.refl _ _).alloc (Nat.le_refl _) _
  have hr := tAt_new w t la ln lc da n c
  obtain ⟨M, hM⟩ : ∃ M, M = tC t la ln lc da n c := ⟨_, rfl⟩
  rw [← hM] at bel hr ⊢
  obtain ⟨W, hW⟩ : ∃ W, W = w.alloc (.cells M 45) := ⟨_, rfl⟩
  rw [← hW] at bel hr
  have HW : Hid (w.alloc (.cells M 45) = W) := hW.symm
  obtain ⟨O, hO⟩ : ∃ O, O = w.heap.size := ⟨_, rfl⟩
  rw [← hO] at hr
  have HO : Hid (w.heap.size = O) := hO.symm
  have HR : Hid (TAt W O t la ln lc da n c) := hr
  have HK : Hid (TOk w t la ln os da n c) := k
  have HLW : Hid (LW w) := hw
  have QF : Hid _ := fields9_any t la ln lc da n c W
  obtain ⟨f, hf⟩ : ∃ f, f = L4.tOkF t := ⟨_, rfl⟩
  rw [← hf] at QF
  have HF : Hid (f = L4.tOkF t) := hf
  clear hr hM hW hO k hw hf
  go_enter Tryd.func49, Tryd.ntmps49
  go_upto_region 1 with fail
  rw [HO.out, HW.out]
  go_wp2_with (first | (refine wpList_load_t9 _ rfl O t la ln lc da n c rfl HR.out rfl ?_))
  refine Calls.mono QF.out ?_
  rintro e w1 ⟨rfl, hb1⟩
  have bel1 := bthen bel hb1
  have HR1 : Hid (TAt w1 O t la ln lc da n c) := HR.out.below hb1
  clear QF hb1 HR HW
  cases f with
  | false =>
    have HE : Hid (L4.tChk t = 98) := by show _ = _; unfold L4.tChk; rw [← HF.out]; rfl
    go_wp2
    go_ret
    exact ⟨by rw [HE.out]; rfl, bel1⟩
  | true =>
  have c7 := HR1.out.c7
  have hk1 := HK.out.old bel1
  have QP : Hid _ := tput_any la ln lc os w1 (HLW.out.old bel1) hk1.ol hk1.oat (by have := hk1.on; omega)
  rw [HK.out.ov] at QP
  clear hk1
  obtain ⟨E, hE⟩ : ∃ E, E = tpE t.os := ⟨_, rfl⟩
  rw [← hE] at QP
  have HE0 : Hid (E = tpE t.os) := hE
  clear hE
  go_wp2_with fail
  refine Calls.mono QP.out ?_
  rintro e w2 ⟨v, rfl, hb2, hr2⟩
  have bel2 := bthen bel1 hb2
  have HR2 : Hid (TAt w2 O t la ln lc da n c) := HR1.out.below hb2
  clear QP hb2 c7 HR1
  rcases hr2 with ⟨hp, g, rfl, ho⟩ | ⟨hp, rfl⟩
  · rw [HK.out.ov] at hp ⊢
    have hE1 : E = 0 := by rw [HE0.out]; unfold tpE; rw [hp]; rfl
    subst hE1
    have HCK : Hid (L4.tChk t = if 65535 < 20 + (I4.putO t.os).length + n then 2 else 0) := by
      show _ = _
      unfold L4.tChk
      rw [← HF.out, if_pos rfl, if_pos hp, HK.out.d.dl]
    have hol : (I4.putO t.os).length ≤ 40 := (I4.put_len t.os).1
    obtain ⟨ol, hol2⟩ : ∃ ol, ol = (I4.putO t.os).length := ⟨_, rfl⟩
    rw [← hol2] at HCK hol ⊢
    have QZ : Hid _ := tcpSize_any (some ⟨g, 0, none⟩) da ol n ol c w2 (by omega) HK.out.d.sm
    have c8 := HR2.out.c8
    clear hp ho HE0 hol2
    go_wp2_with fail
    refine Calls.mono QZ.out ?_
    rintro e w3 ⟨rfl, rfl⟩
    obtain ⟨m, hm⟩ : ∃ m, m = 20 + ol + n := ⟨_, rfl⟩
    rw [← hm] at HCK ⊢
    clear hm QZ
    by_cases hl : 65535 < m
    · have b : ((65535 : Int) < (m : Int)) := by omega
      rw [if_pos hl] at HCK
      clear hl
      go_wp2
      go_ret
      exact ⟨by rw [HCK.out]; rfl, bel2⟩
    · have b : ¬ ((65535 : Int) < (m : Int)) := by omega
      rw [if_neg hl] at HCK
      clear hl
      go_wp2
      go_ret
      exact ⟨by rw [HCK.out]; rfl, bel2⟩
  · rw [HK.out.ov] at hp
    have hE1 : E = 97 := by rw [HE0.out]; unfold tpE; rw [hp]; rfl
    subst hE1
    have HCK : Hid (L4.tChk t = 97) := by
      show _ = _
      unfold L4.tChk
      rw [← HF.out, if_pos rfl, hp]
      rfl
    clear hp HE0
    go_wp2
    go_ret
    exact ⟨by rw [HCK.out]; rfl, bel2⟩
end Go.Proofs.YtfoeepbndfnifaaDoor
