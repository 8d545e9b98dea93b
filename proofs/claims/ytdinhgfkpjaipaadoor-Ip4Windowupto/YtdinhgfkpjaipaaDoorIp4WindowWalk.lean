/-
  Ip4Window: the walk.
-/
import Derived.Test.YtdinhgfkpjaipaaDoorI4Xor
namespace Go.Proofs.YtdinhgfkpjaipaaDoor
open Go.RowKit
open I4 (H4)

theorem yields_u8w {ops : Array Oper} {o : Oper} {a : Act} {S : World → Prop} (x : Operand) (ho : o.op = .load 5 x) (p : Addr) (u : Value) (hx : a.eval x = .pointer (some p)) (hw : Region.wanted o (yielded ops a.tmps) = true) (hS : ∀ w, S w → w.cell? p = some u) : YieldsIf Tryd.prog ops S o u a := by
  refine .inl ⟨hw, fun w hb => ?_⟩
  have hc := hS w hb
  have hu := Tryd.underlying5
  obtain ⟨dst, op, type, pos, after, guard⟩ := o
  simp only at ho
  subst ho
  simp only [execOp, Sem.run_bind, Sem.run_pure]
  rw [hx]
  simp [Instr.loadAt, go_sem, hc]
theorem seg_same {w : World} {a : Option Addr} {l m : List Nat} (h0 : 0 < l.length) (h1 : Seg .u8 w a (toI l)) (h2 : Seg .u8 w a (toI m)) (hl : m.length = l.length) : l = m := by
  obtain ⟨b, off, rfl, hc⟩ := seg_at h1 0 h0
  obtain ⟨b2, off2, e, hc2⟩ := seg_at h2 0 (by omega)
  have e2 := Option.some.inj e
  simp only [Addr.mk.injEq, and_true] at e2
  obtain ⟨rfl, rfl⟩ := e2
  refine I4.getD_ext hl.symm (fun i hi => ?_)
  have c1 := hc i hi
  have c2 := hc2 i (by omega)
  rw [c1] at c2
  simp only [Option.some.injEq, Value.int.injEq, true_and] at c2
  omega
set_option maxHeartbeats 25600000 in
set_option maxRecDepth 100000 in
theorem ip4Window.walk (w : World) (hw : Wid w) (a : Option Addr) (n cap : Nat) (z : List Int) (h : IsRow .u8 w a n cap z) (hcap : cap ≤ 1048576) (cI : Int) (wc : (Lit.int .u8 cI).wf = true) :
    Calls Tryd.prog 5 #[.slice a n cap, .int .u8 cI] w fun e w' => e = .returned (.bool true) ∧ Below w.heap.size w w' := by
  obtain ⟨i0, hi, hz0, hz1, hz2⟩ := info_parts Tryd.infoByte
  obtain ⟨bs, hl, hs, h1, h2, h3⟩ := h.bytes
  obtain ⟨c, hc, lc256⟩ : ∃ c : Nat, cI = (c : Int) ∧ c < 256 := by
    simp [Lit.wf, IntKind.min, IntKind.max, IntKind.bits, IntKind.signed] at wc
    exact ⟨cI.toNat, by omega, by omega⟩
  subst hc
  have HN : Hid (bs.length = n) := hl
  have hnm : n ≤ 1048576 := by omega
  have H256 : Hid (∀ x ∈ bs, x < 256) := h3
  have HSEG : Hid (∀ A, Below w.heap.size w A → Seg .u8 A a (toI bs)) := fun A hA => hs.old hA
  have HWID : Hid (∀ A, Below w.heap.size w A → Wid A) := fun A hA => hw.old hA
  have QS : Hid _ := started_any w hw
  clear hw hl hs h1 h2 h3 h wc
  go_enter Tryd.func5, Tryd.ntmps5
  go_wp2_with fail
  refine Calls.mono QS.out ?_
  rintro e w1 ⟨rfl, bel1⟩
  have QW : Hid _ := wide_any a n cap bs w1 HN.out (HSEG.out w1 bel1) hnm
  clear QS
  go_wp2_with fail
  refine Calls.mono QW.out ?_
  rintro e w2 ⟨g, cc, rfl, hog, hb2⟩
  have bel2 := bthen bel1 hb2
  have HG2 : Hid (w2.ownsRow w1.heap.size 5 1 (.slice (some ⟨g, 0, none⟩) (n + 3) cc) (n + 3) ((toI (bs ++ [91, 92, 93])).map (Value.int .u8))) := hog
  have hcp := (owns_at hog).2
  have hgw : w1.heap.size ≤ g := (hog.lt g rfl).1
  have HWG : Hid (w.heap.size ≤ g) := Nat.le_trans bel1.size hgw
  have s0 : (0 : Int) ≤ (n : Int) := by omega
  have s1 : (n : Int) ≤ (cc : Int) := by have := hcp.1; omega
  have s2 : ((n : Int)).toNat = n := by omega
  have hncc : n ≤ cc := by have := hcp.1; omega
  have hcm : cc ≤ 9223372036854775807 := hcp.2
  have HSG : Hid (∀ (A : World) (l : List Nat), l.length = n → A.ownsRow w1.heap.size 5 1 (.slice (some ⟨g, 0, none⟩) (n + 3) cc) (n + 3) ((toI (l ++ [91, 92, 93])).map (Value.int .u8)) → Seg .u8 A (some ⟨g, 0, none⟩) (toI l)) := fun A l hll hA => by
    have h1 := (owns_at hA).1.part0 n (by rw [toI_len, List.length_append, hll]; simp)
    rw [toI_take, List.take_append_of_le_length (by rw [hll]; exact Nat.le_refl _), List.take_of_length_le (by rw [hll]; exact Nat.le_refl _)] at h1
    exact h1
  have HKEPT : Hid (∀ A, Below w.heap.size w A → A.ownsRow w1.heap.size 5 1 (.slice (some ⟨g, 0, none⟩) (n + 3) cc) (n + 3) ((toI (bs ++ [91, 92, 93])).map (Value.int .u8)) → Calls Tryd.prog 26 #[.slice (some ⟨g, 0, none⟩) (n + 3) cc, .slice a n cap] A fun e w' => e = .returned (.bool true) ∧ A = w') := fun A hA hR => kept_any g 0 a n cc cap bs A HN.out (owns_at hR).1 (HSEG.out A hA) H256.out (owns_at hR).2.1 hnm
  have HG2L : Hid (g < w2.heap.size) := (HG2.out.lt g rfl).2
  have HPAR : Hid (∀ (A : World) (l : List Nat), Below w.heap.size w A → l.length = n → (∀ x ∈ l, x < 256) → A.ownsRow w1.heap.size 5 1 (.slice (some ⟨g, 0, none⟩) (n + 3) cc) (n + 3) ((toI (l ++ [91, 92, 93])).map (Value.int .u8)) → Calls Tryd.prog 20 #[.slice (some ⟨g, 0, none⟩) n cc] A fun e w' => ∃ C, e = .returned (.tuple #[.agg C, .int .i64 (I4.pE l : Nat)]) ∧ Below A.heap.size A w' ∧ ((I4.pE l ≠ 0 ∧ C = h4C h4z nilS nilS) ∨ (I4.pE l = 0 ∧ Read w' A.heap.size (some ⟨g, 0, none⟩) l C))) := fun A l hA hll hl2 hR => parse_two (some ⟨g, 0, none⟩) cc n l A hll (HWID.out A hA) (HSG.out A l hll hR) hl2 hncc hcm
  obtain ⟨E, hE⟩ : ∃ E, E = I4.pE bs := ⟨_, rfl⟩
  have HE : Hid (E = I4.pE bs) := hE
  have QP : Hid _ := HPAR.out w2 bs bel2 HN.out H256.out HG2.out
  rw [← hE] at QP
  clear QW hog hb2 hcp hE
  go_wp2_with fail
  refine Calls.mono QP.out ?_
  rintro e w4 ⟨C, rfl, hb4, hres⟩
  have bel4 := bthen bel2 hb4
  have HG4 : Hid (w4.ownsRow w1.heap.size 5 1 (.slice (some ⟨g, 0, none⟩) (n + 3) cc) (n + 3) ((toI (bs ++ [91, 92, 93])).map (Value.int .u8))) := owns_below HG2.out hb4
  clear QP HG2
  rcases hres with ⟨hne, rfl⟩ | ⟨h0, hrd⟩
  · have b1 : ((E : Int) != 0) = true := by rw [bne_iff_ne]; omega
    clear hne
    go_wp2_with (first | (refine wpList_alloc_h4 rfl rfl ?_) | (refine wpList_store_h4 (.tmp 8) (.tmp 36) rfl rfl w4.heap.size h4z h4z nilS nilS nilS nilS rfl rfl rfl rfl (h4At_new _ _ _ _) rfl ?_))
    intro w5 hP5 k5
    have sb := stored_below k5
    have bel5 := bthen bel4 sb
    have QK : Hid _ := HKEPT.out w5 bel5 (owns_below HG4.out sb)
    clear hP5 k5 sb
    go_wp2_with fail
    refine Calls.mono (num_any E w5) ?_
    rintro e w6 ⟨rfl, rfl⟩
    go_wp2_with fail
    refine Calls.mono QK.out ?_
    rintro e w6 ⟨rfl, rfl⟩
    go_wp2
    go_ret
    exact ⟨rfl, bel5⟩
  subst h0
  obtain ⟨la, Kn, lc, os, rfl, hok, how⟩ := hrd.ex
  have tk := hrd.tk
  have HTK : Hid (I4.Taken bs) := tk
  have HOW4 : Hid (w4.ownsRow w2.heap.size 43 2 (.slice la Kn lc) Kn (opsC (optA (some ⟨g, 0, none⟩)) (I4.opsB bs))) := how
  obtain ⟨hd, hhd⟩ : ∃ hd, hd = I4.hdL bs := ⟨_, rfl⟩
  obtain ⟨dn, hdn⟩ : ∃ dn, dn = I4.tlL bs - I4.hdL bs := ⟨_, rfl⟩
  have HHD : Hid (hd = I4.hdL bs) := hhd
  have HDN : Hid (dn = I4.tlL bs - I4.hdL bs) := hdn
  have hlen : 20 ≤ hd ∧ hd + dn ≤ n := by have h1 := tk.hd; have h2 := tk.hd2; have h3 := tk.tl; have h4 := HN.out; omega
  obtain ⟨lhd, lhn⟩ := hlen
  have n65 : n ≤ 65535 := by have := tk.le; have h4 := HN.out; omega
  obtain ⟨dA, hdA⟩ : ∃ dA, dA = cutA (some (⟨g, 0, none⟩ : Addr)) hd dn := ⟨_, rfl⟩
  have HDA : Hid (∃ ao, dA = some ao) := by
    rw [hdA]
    unfold cutA
    split
    · exact ⟨_, rfl⟩
    · exact ⟨_, rfl⟩
  have HDG : Hid (0 < dn → dA = some ⟨g, hd, none⟩) := by
    intro h0
    rw [hdA]
    unfold cutA
    rw [if_neg (by omega)]
    simp [Addr.add]
    omega
  have HDE : Hid (dA = cutA (some (⟨g, 0, none⟩ : Addr)) hd dn) := hdA
  rw [← hdn, ← hhd, ← hdA] at hok ⊢
  have HOK4 : Hid (H4Ok w4 (I4.pH bs) la Kn lc os dA dn dn) := hok
  obtain ⟨P, hP⟩ : ∃ P, P = I4.pH bs := ⟨_, rfl⟩
  rw [← hP] at HOK4 ⊢
  have HPP : Hid (P = I4.pH bs) := hP
  have hKs : Kn ≤ 40 := by
    have h1 := tk.flat H256.out
    have h2 := hok.ol
    have h3 := congrArg List.length hok.hos
    simp only [vals, List.length_map] at h3
    have key : ∀ l : List (Int × List Nat), l.length ≤ (I4.flatI l).length := by
      intro l
      unfold I4.flatI
      induction l with
      | nil => simp [I4.flatO]
      | cons o l ih => rw [List.map_cons, I4.flatO_cons, List.length_cons]; omega
    have h4 := key (I4.pH bs).os
    have h5 := I4.hdL_le bs
    omega
  have HSC : Hid (∀ q ∈ I4.opsB bs, 20 + q.p + q.n ≤ hd) := fun q hq => by
    obtain ⟨si, _⟩ := I4.scan_in (I4.optB bs) 0 (I4.opsB bs) tk.opt (Nat.zero_le _) (I4.optB_256 H256.out)
    have h1 := si q hq
    have h2 := tk.opt_len
    omega
  clear hhd hdn hdA hok tk hrd hP how
  go_upto_region 5 with (first | (refine wpList_alloc_h4 rfl rfl ?_) | (refine wpList_store_h4 (.tmp 8) (.tmp 36) rfl rfl w4.heap.size h4z P nilS nilS (.slice la Kn lc) (.slice dA dn dn) rfl rfl rfl rfl (h4At_new _ _ _ _) rfl ?_))
  intro w5 hP5 k5
  have sb := stored_below k5
  have bel5 := bthen bel4 sb
  obtain ⟨O, hOO⟩ : ∃ O, O = w4.heap.size := ⟨_, rfl⟩
  rw [← hOO] at hP5 ⊢
  have HP5 : Hid (H4At w5 O P (.slice la Kn lc) (.slice dA dn dn)) := hP5
  have HOK5 : Hid (H4Ok w5 P la Kn lc os dA dn dn) := HOK4.out.old sb
  have HG5 : Hid (w5.ownsRow w1.heap.size 5 1 (.slice (some ⟨g, 0, none⟩) (n + 3) cc) (n + 3) ((toI (bs ++ [91, 92, 93])).map (Value.int .u8))) := owns_below HG4.out sb
  have HOW5 : Hid (w5.ownsRow w2.heap.size 43 2 (.slice la Kn lc) Kn (opsC (optA (some ⟨g, 0, none⟩)) (I4.opsB bs))) := owns_below HOW4.out sb
  have HGO : Hid (g < O) := by rw [hOO]; exact (HG4.out.lt g rfl).2
  have HGL : Hid (g < w2.heap.size) := HG2L.out
  have CHB : Hid (∀ A, Ch (fun q => q = g) w5 A → Below w.heap.size w A) := fun A hA => bel5.trans (hA.below (fun q e => by have e' : q = g := e; have := HWG.out; omega) bel5.size)
  have CHO : Hid (∀ A, Ch (fun q => q = g) w5 A → H4At A O P (.slice la Kn lc) (.slice dA dn dn)) := fun A hA => H4At.ch HP5.out hA (fun e => by have e' : O = g := e; have := HGO.out; omega)
  have COP : Hid (∀ A, Ch (fun q => q = g) w5 A → ∀ (i : Nat) (o : OpV), os[i]? = some o → ∃ b off, la = some ⟨b, off, none⟩ ∧ A.cell? ⟨b, off + i * 2 + 1, none⟩ = some (.slice o.a o.d.length o.c)) := fun A hA i o hio => by
    obtain ⟨b, off, e1, hlt, _, _, c2⟩ := HOK5.out.opts.at i o hio
    refine ⟨b, off, e1, hA.cell c2 (fun e => ?_)⟩
    have e' : b = g := e
    have h1 := (own_blk HOW5.out _ e1).1
    have h2 := HGL.out
    have h3 : w2.heap.size ≤ b := h1
    omega
  have HOP : Hid (∀ (i : Nat) (o : OpV), os[i]? = some o → ∃ p, 20 ≤ p ∧ p + o.d.length ≤ n ∧ o.c = o.d.length ∧ (∃ ao, o.a = some ao) ∧ (0 < o.d.length → o.a = some ⟨g, p, none⟩)) := fun i o hio => by
    obtain ⟨q, hq, e1, e2, e3⟩ := read_opt HOW5.out HOK5.out.opts HOK5.out.ol i o hio
    have h1 := HSC.out q (List.mem_of_getElem? hq)
    refine ⟨20 + q.p, by omega, by omega, by omega, ?_, fun h0 => ?_⟩
    · rw [e1]
      unfold cutA optA
      split
      · exact ⟨_, rfl⟩
      · exact ⟨_, rfl⟩
    · rw [e1]
      unfold cutA optA
      rw [if_neg (by omega)]
      simp only [Option.map_some]
      congr 1
      unfold Addr.add
      simp only [if_neg (show ¬ (20 = 0) by decide)]
      split
      · simp
      · simp
  have C5 : Ch (fun q => q = g) w5 w5 := Ch.refl _ _
  obtain ⟨LL, hLL⟩ : ∃ LL, LL = bs ++ [91, 92, 93] := ⟨_, rfl⟩
  have HLL : Hid (LL = bs ++ [91, 92, 93]) := hLL
  have HLN : Hid (LL.length = n + 3) := by show _ = _; rw [hLL, List.length_append, HN.out]; rfl
  have HL256 : Hid (∀ x ∈ LL, x < 256) := by
    rw [hLL]
    intro x hx
    rcases List.mem_append.1 hx with h1 | h1
    · exact H256.out x h1
    · simp at h1; omega
  have R5 : Hid (w5.ownsRow w1.heap.size 5 1 (.slice (some ⟨g, 0, none⟩) (n + 3) cc) (n + 3) ((toI LL).map (Value.int .u8))) := by rw [hLL]; exact HG5.out
  have KEPT : Hid (∀ A, Ch (fun q => q = g) w5 A → A.ownsRow w1.heap.size 5 1 (.slice (some ⟨g, 0, none⟩) (n + 3) cc) (n + 3) ((toI LL).map (Value.int .u8)) → Calls Tryd.prog 26 #[.slice (some ⟨g, 0, none⟩) (n + 3) cc, .slice a n cap] A fun e w' => e = .returned (.bool true) ∧ A = w') := fun A hA hR => HKEPT.out A (CHB.out A hA) (by rw [← HLL.out]; exact hR)
  have SGD : Hid (∀ A, A.ownsRow w1.heap.size 5 1 (.slice (some ⟨g, 0, none⟩) (n + 3) cc) (n + 3) ((toI LL).map (Value.int .u8)) → Seg .u8 A dA (toI P.data)) := fun A hA => by
    have h1 := (owns_at hA).1.cut hd dn (by rw [toI_len, HLN.out]; omega)
    rw [toI_drop, toI_take, ← HDE.out] at h1
    have e : P.data = (LL.drop hd).take dn := by
      rw [HPP.out, HLL.out, HHD.out, HDN.out]
      show I4.dataB bs = _
      unfold I4.dataB
      rw [List.drop_append_of_le_length (by rw [HN.out, ← HHD.out]; omega), List.take_append_of_le_length (by have h1 := HDN.out; have h2 := HHD.out; rw [List.length_drop, HN.out]; omega)]
    rw [e]
    exact h1
  clear hP5 k5 sb hOO hLL HG4 HG5 HOK4 HOW4 hb4 bel4 HKEPT
  -- append to the data
  go_wp2_with fail
  refine Calls.mono (num_any 0 w5) ?_
  rintro e w6 ⟨rfl, rfl⟩
  have d42 := (CHO.out w5 C5).c42
  obtain ⟨ao, hao⟩ := HDA.out
  have HAO : Hid (dA = some ao) := hao
  have hsgd : Seg .u8 w5 (some ao) (toI P.data) := by rw [← hao]; exact HOK5.out.seg
  have hdl : (toI P.data).length = dn := by rw [toI_len]; exact HOK5.out.dl
  rw [hao] at d42
  clear hao
  go_wp2_with (first | (at_builtin; refine wpList_append_full rfl (.tmp 52) (.tmp 53) 26 rfl 5 i0 (.int .u8 0) 1 Tryd.underlying26 hi hz0 hz1 hz2 rfl .u8 ao dn (toI P.data) rfl hdl (hsgd.old ((Below.refl _ _).alloc (Nat.le_refl _) _)) ⟨w5.heap.size, 0, none⟩ 3 3 [.int .u8 7, .int .u8 8, .int .u8 9] rfl rfl (three_new _ _ _ _ _) (by decide) (by unfold maxLen; omega) (by omega) ?_))
  intro v6 w6 ho6 hg6
  obtain ⟨g6, c6, rfl⟩ := owns_some ho6 (by omega)
  have b56 : Below w5.heap.size w5 w6 := ((Below.refl _ _).alloc (Nat.le_refl _) (.cells #[.int .u8 7, .int .u8 8, .int .u8 9] 5)).grown hg6 (by simp) (by intro q hq; simp at hq)
  have C6 : Ch (fun q => q = g) w5 w6 := Ch.ofBelow b56
  have R6 : Hid (w6.ownsRow w1.heap.size 5 1 (.slice (some ⟨g, 0, none⟩) (n + 3) cc) (n + 3) ((toI LL).map (Value.int .u8))) := owns_below R5.out b56
  have e42 := (CHO.out w6 C6).c42
  have QK : Hid _ := KEPT.out w6 C6 R6.out
  have wd3 : IntKind.i64.wrap ((dn : Int) + 3) = (dn : Int) + 3 := by rw [IntKind.wrap_i64]; omega
  have q3 : (((dn + 3 : Nat) : Int) != (dn : Int) + 3) = false := by simp
  clear ho6 hg6 b56 hsgd hdl d42
  go_wp2_with fail
  refine Calls.mono QK.out ?_
  rintro e w7 ⟨rfl, rfl⟩
  go_wp2
  go_loopw [11] (fun ix wr => ∃ k : Nat, ix = .int .i64 k ∧ k ≤ Kn ∧ Hid (Ch (fun q => q = g) w5 wr ∧ wr.ownsRow w1.heap.size 5 1 (.slice (some ⟨g, 0, none⟩) (n + 3) cc) (n + 3) ((toI LL).map (Value.int .u8)))) (fun ix _ => Kn - (intOf ix).toNat)
  case atStart => exact ⟨0, rfl, Nat.zero_le _, C6, R6.out⟩
  case round =>
    obtain ⟨k, rfl, hk, HT⟩ := hrel
    have x41 := (CHO.out wr HT.out.1).c41
    by_cases hlt : k < Kn
    · obtain ⟨op, hop⟩ : ∃ op, os[k]? = some op := ⟨_, List.getElem?_eq_getElem (by rw [HOK5.out.ol]; exact hlt)⟩
      obtain ⟨bl, ofl, hla, c11⟩ := COP.out wr HT.out.1 k op hop
      obtain ⟨p, hp20, hpn, hoc, ⟨aq, haq⟩, hpa⟩ := HOP.out k op hop
      obtain ⟨D, hD⟩ : ∃ D, D = op.d.length := ⟨_, rfl⟩
      rw [haq, hoc, ← hD] at c11
      have HSGO : Hid (Seg .u8 wr (some aq) (toI op.d)) := by
        obtain ⟨_, _, _, _, ok1, _, _⟩ := HOK5.out.opts.at k op hop
        have hg0 := HT.out.2
        by_cases h0 : op.d = []
        · left; rw [h0]; rfl
        · have h1 : 0 < op.d.length := List.length_pos_iff.2 h0
          have h2 := hpa h1
          rw [haq] at h2
          have h3 := Option.some.inj h2
          rw [h3]
          have hpart := (owns_at hg0).1.part p op.d.length (by rw [toI_len, HLN.out]; omega)
          have hpart5 := (owns_at R5.out).1.part p op.d.length (by rw [toI_len, HLN.out]; omega)
          rw [toI_drop, toI_take] at hpart hpart5
          have hsg5 := ok1.seg
          rw [haq, h3] at hsg5
          have e1 : op.d = (LL.drop p).take op.d.length := seg_same h1 hsg5 (by simpa [Addr.add, show p ≠ 0 by omega] using hpart5) (by rw [List.length_take, List.length_drop, HLN.out]; omega)
          rw [e1]
          show Seg .u8 wr _ _
          simpa [Addr.add, show p ≠ 0 by omega] using hpart
      have hdl : (toI op.d).length = D := by rw [toI_len]; exact hD.symm
      have k0 : (0 : Int) ≤ (k : Int) := by omega
      have k1 : (k : Int) < (Kn : Int) := by omega
      have k2 : ((k : Int)).toNat = k := by omega
      have wk : IntKind.i64.wrap ((k : Int) + 1) = (k : Int) + 1 := by rw [IntKind.wrap_i64]; omega
      have hDn : D ≤ n := by omega
      have wD : IntKind.i64.wrap ((D : Int) + 3) = (D : Int) + 3 := by rw [IntKind.wrap_i64]; omega
      have qD : (((D + 3 : Nat) : Int) != (D : Int) + 3) = false := by simp
      rw [hla] at x41
      have HLA : Hid (la = some ⟨bl, ofl, none⟩) := hla
      have HC11 : Hid (∀ A, Ch (fun q => q = g) w5 A → A.cell? ⟨bl, ofl + k * 2 + 1, none⟩ = some (.slice (some aq) D D)) := fun A hA => by
        obtain ⟨bl2, ofl2, hla2, cx⟩ := COP.out A hA k op hop
        rw [hla] at hla2
        have e2 := Option.some.inj hla2
        simp only [Addr.mk.injEq, and_true] at e2
        obtain ⟨rfl, rfl⟩ := e2
        rw [haq, hoc, ← hD] at cx
        exact cx
      clear hop hla hp20 hpn hoc haq hpa hD
      go_wp2_with (first | (at_builtin; refine wpList_append_full rfl (.tmp 80) (.tmp 81) 26 rfl 5 i0 (.int .u8 0) 1 Tryd.underlying26 hi hz0 hz1 hz2 rfl .u8 aq D (toI op.d) rfl hdl (HSGO.out.old ((Below.refl _ _).alloc (Nat.le_refl _) _)) ⟨wr.heap.size, 0, none⟩ 3 3 [.int .u8 7, .int .u8 8, .int .u8 9] rfl rfl (three_new _ _ _ _ _) (by decide) (by unfold maxLen; omega) (by omega) ?_))
      intro v8 w8 ho8 hg8
      obtain ⟨g8, c8, rfl⟩ := owns_some ho8 (by omega)
      have b78 : Below wr.heap.size wr w8 := ((Below.refl _ _).alloc (Nat.le_refl _) (.cells #[.int .u8 7, .int .u8 8, .int .u8 9] 5)).grown hg8 (by simp) (by intro q hq; simp at hq)
      have C8 : Ch (fun q => q = g) w5 w8 := HT.out.1.trans (Ch.ofBelow (S := fun _ => False) b78) (fun _ _ e => e.elim)
      have R8 : Hid (w8.ownsRow w1.heap.size 5 1 (.slice (some ⟨g, 0, none⟩) (n + 3) cc) (n + 3) ((toI LL).map (Value.int .u8))) := owns_below HT.out.2 b78
      have y41 := (CHO.out w8 C8).c41
      rw [HLA.out] at y41
      have y11 := HC11.out w8 C8
      have QK : Hid _ := KEPT.out w8 C8 R8.out
      clear ho8 hg8 b78 HSGO hdl c11 HT x41
      go_wp2_with fail
      refine Calls.mono QK.out ?_
      rintro e w9 ⟨rfl, rfl⟩
      go_wp2
      go_roundw
      case rel => exact ⟨k + 1, by go_num, by omega, C8, R8.out⟩
      case measure => simp [intOf]; omega
    · have hni : ¬ ((k : Int) < (Kn : Int)) := by omega
      clear hlt
      go_wp2
      go_loopw [13] (fun ix wr => ∃ k : Nat, ix = .int .i64 k ∧ k ≤ Kn ∧ Hid (Ch (fun q => q = g) w5 wr ∧ wr.ownsRow w1.heap.size 5 1 (.slice (some ⟨g, 0, none⟩) (n + 3) cc) (n + 3) ((toI LL).map (Value.int .u8)))) (fun ix _ => Kn - (intOf ix).toNat)
      case atStart => exact ⟨0, rfl, Nat.zero_le _, HT.out⟩
      case round =>
        obtain ⟨k, rfl, hk, HT⟩ := hrel
        have x41 := (CHO.out wr HT.out.1).c41
        by_cases hlt : k < Kn
        · obtain ⟨op, hop⟩ : ∃ op, os[k]? = some op := ⟨_, List.getElem?_eq_getElem (by rw [HOK5.out.ol]; exact hlt)⟩
          obtain ⟨bl, ofl, hla, c11⟩ := COP.out wr HT.out.1 k op hop
          obtain ⟨p, hp20, hpn, hoc, _, hpa⟩ := HOP.out k op hop
          obtain ⟨D, hD⟩ : ∃ D, D = op.d.length := ⟨_, rfl⟩
          obtain ⟨aq, haq⟩ : ∃ aq, aq = op.a := ⟨_, rfl⟩
          rw [← hD] at hpa hpn
          rw [← haq] at hpa
          rw [← haq, hoc, ← hD] at c11
          have HPA : Hid (0 < D → aq = some ⟨g, p, none⟩) := hpa
          have k0 : (0 : Int) ≤ (k : Int) := by omega
          have k1 : (k : Int) < (Kn : Int) := by omega
          have k2 : ((k : Int)).toNat = k := by omega
          have wk : IntKind.i64.wrap ((k : Int) + 1) = (k : Int) + 1 := by rw [IntKind.wrap_i64]; omega
          have hDn : D ≤ n := by omega
          have hpD : p + D ≤ n := hpn
          rw [hla] at x41
          have QC : Hid _ := copied_any (some ⟨g, 0, none⟩) (n + 3) cc LL wr HLN.out (owns_at HT.out.2).1 (by omega)
          clear hop hla hp20 hpn hoc hpa hD haq
          go_wp2_with fail
          refine Calls.mono QC.out ?_
          rintro e w8 ⟨v8, rfl, ho8, hb8⟩
          obtain ⟨gw, cw, rfl⟩ := owns_some ho8 (by omega)
          obtain ⟨BW0, hBW0⟩ : ∃ B, B = wr.heap.size := ⟨_, rfl⟩
          rw [← hBW0] at ho8
          have C8 : Ch (fun q => q = g) w5 w8 := HT.out.1.trans (Ch.ofBelow (S := fun _ => False) hb8) (fun _ _ e => e.elim)
          have R8 : Hid (w8.ownsRow w1.heap.size 5 1 (.slice (some ⟨g, 0, none⟩) (n + 3) cc) (n + 3) ((toI LL).map (Value.int .u8))) := owns_below HT.out.2 hb8
          have W8 : Hid (w8.ownsRow BW0 5 1 (.slice (some ⟨gw, 0, none⟩) (n + 3) cw) (n + 3) ((toI LL).map (Value.int .u8))) := ho8
          have HGW : Hid (g ≠ gw) := by have h1 := (ho8.lt gw rfl).1; have h2 := (HT.out.2.lt g rfl).2; show g ≠ gw; omega
          clear hBW0
          have HX0 : Hid (Ch (fun q => q = g) w5 w8 ∧ w8.ownsRow w1.heap.size 5 1 (.slice (some ⟨g, 0, none⟩) (n + 3) cc) (n + 3) ((toI (xr LL p 0 255)).map (Value.int .u8)) ∧ w8.ownsRow BW0 5 1 (.slice (some ⟨gw, 0, none⟩) (n + 3) cw) (n + 3) ((toI LL).map (Value.int .u8))) := ⟨C8, by rw [xr_zero]; exact R8.out, W8.out⟩
          clear QC ho8 hb8 HT R8 W8 C8 x41 c11
          go_wp2
          go_loopw [16] (fun ix wr => ∃ j : Nat, ix = .int .i64 j ∧ j ≤ D ∧ Hid (Ch (fun q => q = g) w5 wr ∧ wr.ownsRow w1.heap.size 5 1 (.slice (some ⟨g, 0, none⟩) (n + 3) cc) (n + 3) ((toI (xr LL p j 255)).map (Value.int .u8)) ∧ wr.ownsRow BW0 5 1 (.slice (some ⟨gw, 0, none⟩) (n + 3) cw) (n + 3) ((toI LL).map (Value.int .u8)))) (fun ix _ => D - (intOf ix).toNat)
          case atStart => exact ⟨0, rfl, Nat.zero_le _, HX0⟩
          case round =>
            obtain ⟨j, rfl, hj, HX⟩ := hrel
            by_cases hjl : j < D
            · obtain rfl := HPA.out (by omega)
              have hpl : p + j < n + 3 := by omega
              obtain ⟨g', o', e1, hcs⟩ := seg_at (owns_at HX.out.2.1).1 0 (by rw [xr_len, HLN.out]; omega)
              have e2 := Option.some.inj e1
              simp only [Addr.mk.injEq, and_true] at e2
              obtain ⟨rfl, rfl⟩ := e2
              have cx := hcs (p + j) (by rw [xr_len, HLN.out]; exact hpl)
              rw [Nat.zero_add, xr_next _ _ _ _ (by rw [HLN.out]; exact hpl)] at cx
              have zx := own_fz6 HX.out.2.1 (p + j)
              have xl : (LL).getD (p + j) 0 < 256 := I4.getD_lt _ HL256.out _
              have hnew := set_own6 (i := p + j) (y := (LL).getD (p + j) 0 ^^^ 255) HX.out.2.1 (by rw [xr_len, HLN.out])
              rw [xr_step] at hnew
              obtain ⟨xv, hxv⟩ : ∃ xv, xv = (LL).getD (p + j) 0 := ⟨_, rfl⟩
              rw [← hxv] at cx xl hnew
              have xb : bits .xor .u8 (xv : Int) 255 = ((xv ^^^ 255 : Nat) : Int) := u8_xor_nat xv 255 xl (by decide)
              have j0 : (0 : Int) ≤ (j : Int) := by omega
              have j1 : (j : Int) < (D : Int) := by omega
              have j2' : ((j : Int)).toNat = j := by omega
              have wj : IntKind.i64.wrap ((j : Int) + 1) = (j : Int) + 1 := by rw [IntKind.wrap_i64]; omega
              have HNX : Hid (Ch (fun q => q = g) w5 (wr.setCell ⟨g, p + j, none⟩ (.int .u8 ((xv ^^^ 255 : Nat) : Int))) ∧ (wr.setCell ⟨g, p + j, none⟩ (.int .u8 ((xv ^^^ 255 : Nat) : Int))).ownsRow w1.heap.size 5 1 (.slice (some ⟨g, 0, none⟩) (n + 3) cc) (n + 3) ((toI (xr (LL) p (j + 1) 255)).map (Value.int .u8)) ∧ ((wr.setCell ⟨g, p + j, none⟩ (.int .u8 ((xv ^^^ 255 : Nat) : Int)))).ownsRow BW0 5 1 (.slice (some ⟨gw, 0, none⟩) (n + 3) cw) (n + 3) ((toI LL).map (Value.int .u8))) := ⟨HX.out.1.set _ _ rfl, hnew, ((Ch.refl (fun q => q = g) wr).set ⟨g, p + j, none⟩ _ rfl).owns HX.out.2.2 (fun q hq e => by have e' : q = g := e; have h1 : gw = q := (by simpa [Value.ownBlock] using hq); exact HGW.out (by rw [← e', h1]))⟩
              clear e1 hcs hnew hxv
              go_wp2
              go_roundw
              case rel => exact ⟨j + 1, by go_num, by omega, HNX⟩
              case measure => simp [intOf]; omega
            · have hni : ¬ ((j : Int) < (D : Int)) := by omega
              have ej : j = D := by omega
              have HXD : Hid (Ch (fun q => q = g) w5 wr ∧ wr.ownsRow w1.heap.size 5 1 (.slice (some ⟨g, 0, none⟩) (n + 3) cc) (n + 3) ((toI (xr LL p D 255)).map (Value.int .u8)) ∧ wr.ownsRow BW0 5 1 (.slice (some ⟨gw, 0, none⟩) (n + 3) cw) (n + 3) ((toI LL).map (Value.int .u8))) := by have h1 := HX.out; rw [ej] at h1; exact h1
              clear hjl ej HX hj
              go_wp2
              go_loopw [17, 18] (fun tx ix wr => ∃ m : Nat, ix = .int .i64 m ∧ m ≤ n + 3 ∧ tx = .int .i64 (cntW p D m : Nat) ∧ Hid (Ch (fun q => q = g) w5 wr ∧ wr.ownsRow w1.heap.size 5 1 (.slice (some ⟨g, 0, none⟩) (n + 3) cc) (n + 3) ((toI (xr LL p D 255)).map (Value.int .u8)) ∧ wr.ownsRow BW0 5 1 (.slice (some ⟨gw, 0, none⟩) (n + 3) cw) (n + 3) ((toI LL).map (Value.int .u8)))) (fun _ ix _ => n + 3 - (intOf ix).toNat)
              case atStart => exact ⟨0, rfl, Nat.zero_le _, by unfold cntW; simp, HXD⟩
              case round =>
                clear HXD
                obtain ⟨m, rfl, hm, rfl, HXE⟩ := hrel
                by_cases hml : m < n + 3
                · have hly : LL.length = n + 3 := HLN.out
                  obtain ⟨g', o', e1, hcs⟩ := seg_at (owns_at HXE.out.2.1).1 0 (by rw [xr_len, HLN.out]; omega)
                  have e2 := Option.some.inj e1
                  simp only [Addr.mk.injEq, and_true] at e2
                  obtain ⟨rfl, rfl⟩ := e2
                  obtain ⟨g2, o2, f1, hcs2⟩ := seg_at (owns_at HXE.out.2.2).1 0 (by rw [HLN.out]; omega)
                  have f2 := Option.some.inj f1
                  simp only [Addr.mk.injEq, and_true] at f2
                  obtain ⟨rfl, rfl⟩ := f2
                  have cx := hcs m (by rw [xr_len, HLN.out]; exact hml)
                  have cy := hcs2 m (by rw [HLN.out]; exact hml)
                  rw [Nat.zero_add] at cx cy
                  rw [xr_get _ _ _ _ _ (by rw [HLN.out]; exact hml)] at cx
                  have xl : LL.getD m 0 < 256 := I4.getD_lt _ HL256.out _
                  obtain ⟨yv, hyv⟩ : ∃ yv, yv = LL.getD m 0 := ⟨_, rfl⟩
                  rw [← hyv] at cx cy xl
                  have lt1 : g < wr.heap.size := World.block_lt_of_cell? wr _ cx
                  have lt2 : gw < wr.heap.size := World.block_lt_of_cell? wr _ cy
                  have xb : bits .xor .u8 (yv : Int) 255 = ((yv ^^^ 255 : Nat) : Int) := u8_xor_nat yv 255 xl (by decide)
                  have m0 : (0 : Int) ≤ (m : Int) := by omega
                  have m1 : (m : Int) < ((n + 3 : Nat) : Int) := by omega
                  have m2 : ((m : Int)).toNat = m := by omega
                  have wm : IntKind.i64.wrap ((m : Int) + 1) = (m : Int) + 1 := by rw [IntKind.wrap_i64]; omega
                  have cle : cntW p D m ≤ n := by unfold cntW; omega
                  have wt : IntKind.i64.wrap (((cntW p D m : Nat) : Int) + 1) = ((cntW p D m : Nat) : Int) + 1 := by rw [IntKind.wrap_i64]; omega
                  have HCX : Hid (∀ A, Below wr.heap.size wr A → A.cell? ⟨g, m, none⟩ = some (.int .u8 ((if p ≤ m ∧ m < p + D then yv ^^^ 255 else yv : Nat) : Int))) := fun A hA => (hA.cell (p := ⟨g, m, none⟩) lt1).trans cx
                  have HCY : Hid (∀ A, Below wr.heap.size wr A → A.cell? ⟨gw, m, none⟩ = some (.int .u8 (yv : Int))) := fun A hA => (hA.cell (p := ⟨gw, m, none⟩) lt2).trans cy
                  have HXN : Hid (yv ≠ yv ^^^ 255) := xor_ne yv xl
                  clear e1 hcs f1 hcs2 hyv cx cy lt1 lt2 hly
                  by_cases hin : p ≤ m ∧ m < p + D
                  · have HCX2 : Hid (∀ A, Below wr.heap.size wr A → A.cell? ⟨g, m, none⟩ = some (.int .u8 ((yv ^^^ 255 : Nat) : Int))) := fun A hA => by have h1 := HCX.out A hA; rw [if_pos hin] at h1; exact h1
                    have qq : (((yv ^^^ 255 : Nat) : Int) == ((yv ^^^ 255 : Nat) : Int)) = true := by simp
                    have HCT : Hid (cntW p D (m + 1) = cntW p D m + 1) := by show _ = _; unfold cntW; omega
                    clear HCX hin
                    go_wp2
                    refine MixH.start (fun x => Below wr.heap.size wr x) (by kernel_rfl) ?_
                    obtain ⟨wA, hwA⟩ : ∃ wA, wA = wr.drew := ⟨_, rfl⟩
                    have hS : Below wr.heap.size wr wA := by rw [hwA]; exact (Below.refl _ _).drew
                    rw [← hwA]
                    clear hwA
                    refine MixH.takes [true, true, true, false, true, true, true] 4 (by kernel_rfl) (by kernel_rfl) (by decide) (by kernel_rfl) hS (fun K hK => ?_)
                    simp only [Mix.pick]
                    repeat (go_big_quiet_step (fail))
                    refine wpQuiet_nil (hK _ ?_)
                    clear hK K
                    refine MixH.take 3 3 _ (.int .u8 ((yv ^^^ 255 : Nat) : Int)) rfl (by kernel_rfl) (by kernel_rfl) (by kernel_rfl) (by kernel_rfl) (yields_u8w (.tmp 137) rfl ⟨g, m, none⟩ _ rfl rfl HCX2.out) hS (fun a' ha => ?_)
                    simp only [Act.put, List.setIfInBounds_toArray, List.set_cons_succ, List.set_cons_zero] at ha
                    subst ha
                    refine MixH.take 2 7 _ (.int .u8 (yv : Int)) rfl (by kernel_rfl) (by kernel_rfl) (by kernel_rfl) (by kernel_rfl) (yields_u8w (.tmp 141) rfl ⟨gw, m, none⟩ _ rfl rfl HCY.out) hS (fun a' ha => ?_)
                    simp only [Act.put, List.setIfInBounds_toArray, List.set_cons_succ, List.set_cons_zero] at ha
                    subst ha
                    refine MixH.takes [false, false, false, false, false, false, false, false, true, true] 0 (by kernel_rfl) (by kernel_rfl) (by decide) (by kernel_rfl) hS (fun K hK => ?_)
                    simp only [Mix.pick]
                    repeat (go_big_quiet_step (fail))
                    refine wpQuiet_nil (hK _ ?_)
                    clear hK K
                    refine MixH.done (by kernel_rfl) ?_
                    have HBN : Hid (Ch (fun q => q = g) w5 wA ∧ wA.ownsRow w1.heap.size 5 1 (.slice (some ⟨g, 0, none⟩) (n + 3) cc) (n + 3) ((toI (xr LL p D 255)).map (Value.int .u8)) ∧ wA.ownsRow BW0 5 1 (.slice (some ⟨gw, 0, none⟩) (n + 3) cw) (n + 3) ((toI LL).map (Value.int .u8))) := ⟨HXE.out.1.trans (Ch.ofBelow (S := fun _ => False) hS) (fun _ _ e => e.elim), owns_below HXE.out.2.1 hS, owns_below HXE.out.2.2 hS⟩
                    go_wp2
                    go_roundw
                    case rel => exact ⟨m + 1, by go_num, by omega, (by rw [HCT.out]; try go_num), HBN⟩
                    case measure => simp [intOf]; omega
                  · have HCX2 : Hid (∀ A, Below wr.heap.size wr A → A.cell? ⟨g, m, none⟩ = some (.int .u8 ((yv : Nat) : Int))) := fun A hA => by have h1 := HCX.out A hA; rw [if_neg hin] at h1; exact h1
                    have qq : (((yv : Nat) : Int) == ((yv ^^^ 255 : Nat) : Int)) = false := by rw [beq_eq_false_iff_ne]; have := HXN.out; omega
                    have HCT : Hid (cntW p D (m + 1) = cntW p D m) := by show _ = _; unfold cntW; omega
                    clear HCX hin
                    go_wp2
                    refine MixH.start (fun x => Below wr.heap.size wr x) (by kernel_rfl) ?_
                    obtain ⟨wA, hwA⟩ : ∃ wA, wA = wr.drew := ⟨_, rfl⟩
                    have hS : Below wr.heap.size wr wA := by rw [hwA]; exact (Below.refl _ _).drew
                    rw [← hwA]
                    clear hwA
                    refine MixH.takes [true, true, true, false, true, true, true] 4 (by kernel_rfl) (by kernel_rfl) (by decide) (by kernel_rfl) hS (fun K hK => ?_)
                    simp only [Mix.pick]
                    repeat (go_big_quiet_step (fail))
                    refine wpQuiet_nil (hK _ ?_)
                    clear hK K
                    refine MixH.take 3 3 _ (.int .u8 ((yv : Nat) : Int)) rfl (by kernel_rfl) (by kernel_rfl) (by kernel_rfl) (by kernel_rfl) (yields_u8w (.tmp 137) rfl ⟨g, m, none⟩ _ rfl rfl HCX2.out) hS (fun a' ha => ?_)
                    simp only [Act.put, List.setIfInBounds_toArray, List.set_cons_succ, List.set_cons_zero] at ha
                    subst ha
                    refine MixH.take 2 7 _ (.int .u8 (yv : Int)) rfl (by kernel_rfl) (by kernel_rfl) (by kernel_rfl) (by kernel_rfl) (yields_u8w (.tmp 141) rfl ⟨gw, m, none⟩ _ rfl rfl HCY.out) hS (fun a' ha => ?_)
                    simp only [Act.put, List.setIfInBounds_toArray, List.set_cons_succ, List.set_cons_zero] at ha
                    subst ha
                    refine MixH.takes [false, false, false, false, false, false, false, false, true, true] 0 (by kernel_rfl) (by kernel_rfl) (by decide) (by kernel_rfl) hS (fun K hK => ?_)
                    simp only [Mix.pick]
                    repeat (go_big_quiet_step (fail))
                    refine wpQuiet_nil (hK _ ?_)
                    clear hK K
                    refine MixH.done (by kernel_rfl) ?_
                    have HBN : Hid (Ch (fun q => q = g) w5 wA ∧ wA.ownsRow w1.heap.size 5 1 (.slice (some ⟨g, 0, none⟩) (n + 3) cc) (n + 3) ((toI (xr LL p D 255)).map (Value.int .u8)) ∧ wA.ownsRow BW0 5 1 (.slice (some ⟨gw, 0, none⟩) (n + 3) cw) (n + 3) ((toI LL).map (Value.int .u8))) := ⟨HXE.out.1.trans (Ch.ofBelow (S := fun _ => False) hS) (fun _ _ e => e.elim), owns_below HXE.out.2.1 hS, owns_below HXE.out.2.2 hS⟩
                    go_wp2
                    go_roundw
                    case rel => exact ⟨m + 1, by go_num, by omega, (by rw [HCT.out]; try go_num), HBN⟩
                    case measure => simp [intOf]; omega
                · have hni : ¬ ((m : Int) < ((n + 3 : Nat) : Int)) := by omega
                  have em : m = n + 3 := by omega
                  have HCN : Hid (cntW p D m = D) := by show _ = _; rw [em]; unfold cntW; omega
                  rw [HCN.out]
                  have RY0 : Hid (Ch (fun q => q = g) w5 wr ∧ wr.ownsRow w1.heap.size 5 1 (.slice (some ⟨g, 0, none⟩) (n + 3) cc) (n + 3) ((toI (xr (xr LL p D 255) p 0 255)).map (Value.int .u8))) := ⟨HXE.out.1, by rw [xr_zero]; exact HXE.out.2.1⟩
                  clear hml em HXE HCN
                  go_wp2
                  go_loopw [19] (fun ix wr => ∃ j : Nat, ix = .int .i64 j ∧ j ≤ D ∧ Hid (Ch (fun q => q = g) w5 wr ∧ wr.ownsRow w1.heap.size 5 1 (.slice (some ⟨g, 0, none⟩) (n + 3) cc) (n + 3) ((toI (xr (xr LL p D 255) p j 255)).map (Value.int .u8)))) (fun ix _ => D - (intOf ix).toNat)
                  case atStart => exact ⟨0, rfl, Nat.zero_le _, RY0⟩
                  case round =>
                    obtain ⟨j2, rfl, hj2, HZ⟩ := hrel
                    by_cases hjl : j2 < D
                    · obtain rfl := HPA.out (by omega)
                      have hpl : p + j2 < n + 3 := by omega
                      obtain ⟨g', o', e1, hcs⟩ := seg_at (owns_at HZ.out.2).1 0 (by rw [xr_len, xr_len, HLN.out]; omega)
                      have e2 := Option.some.inj e1
                      simp only [Addr.mk.injEq, and_true] at e2
                      obtain ⟨rfl, rfl⟩ := e2
                      have cx := hcs (p + j2) (by rw [xr_len, xr_len, HLN.out]; exact hpl)
                      rw [Nat.zero_add, xr_next _ _ _ _ (by rw [xr_len, HLN.out]; exact hpl)] at cx
                      have zx := own_fz6 HZ.out.2 (p + j2)
                      have xl : (xr LL p D 255).getD (p + j2) 0 < 256 := I4.getD_lt _ (xr_256 _ _ _ _ HL256.out (by decide)) _
                      have hnew := set_own6 (i := p + j2) (y := (xr LL p D 255).getD (p + j2) 0 ^^^ 255) HZ.out.2 (by rw [xr_len, xr_len, HLN.out])
                      rw [xr_step] at hnew
                      obtain ⟨xv, hxv⟩ : ∃ xv, xv = (xr LL p D 255).getD (p + j2) 0 := ⟨_, rfl⟩
                      rw [← hxv] at cx xl hnew
                      have xb : bits .xor .u8 (xv : Int) 255 = ((xv ^^^ 255 : Nat) : Int) := u8_xor_nat xv 255 xl (by decide)
                      have j0 : (0 : Int) ≤ (j2 : Int) := by omega
                      have j1 : (j2 : Int) < (D : Int) := by omega
                      have j2' : ((j2 : Int)).toNat = j2 := by omega
                      have wj : IntKind.i64.wrap ((j2 : Int) + 1) = (j2 : Int) + 1 := by rw [IntKind.wrap_i64]; omega
                      have HNX : Hid (Ch (fun q => q = g) w5 (wr.setCell ⟨g, p + j2, none⟩ (.int .u8 ((xv ^^^ 255 : Nat) : Int))) ∧ (wr.setCell ⟨g, p + j2, none⟩ (.int .u8 ((xv ^^^ 255 : Nat) : Int))).ownsRow w1.heap.size 5 1 (.slice (some ⟨g, 0, none⟩) (n + 3) cc) (n + 3) ((toI (xr (xr LL p D 255) p (j2 + 1) 255)).map (Value.int .u8))) := ⟨HZ.out.1.set _ _ rfl, hnew⟩
                      clear e1 hcs hnew hxv
                      go_wp2
                      go_roundw
                      case rel => exact ⟨j2 + 1, by go_num, by omega, HNX⟩
                      case measure => simp [intOf]; omega
                    · have hni : ¬ ((j2 : Int) < (D : Int)) := by omega
                      have ej : j2 = D := by omega
                      have HZD : Hid (Ch (fun q => q = g) w5 wr ∧ wr.ownsRow w1.heap.size 5 1 (.slice (some ⟨g, 0, none⟩) (n + 3) cc) (n + 3) ((toI LL).map (Value.int .u8))) := by have h1 := HZ.out; rw [ej, xr_back] at h1; exact h1
                      have qDD : ((D : Int) != (D : Int)) = false := by simp
                      have QK : Hid _ := KEPT.out wr HZD.out.1 HZD.out.2
                      clear hjl ej HZ hj2
                      go_wp2_with fail
                      refine Calls.mono QK.out ?_
                      rintro e w9 ⟨rfl, rfl⟩
                      go_wp2
                      go_roundw
                      case rel => exact ⟨k + 1, by go_num, by omega, HZD⟩
                      case measure => simp [intOf]; omega
        · have hni : ¬ ((k : Int) < (Kn : Int)) := by omega
          clear hlt
          go_wp2
          have HY1 : Hid (Ch (fun q => q = g) w5 wr ∧ wr.ownsRow w1.heap.size 5 1 (.slice (some ⟨g, 0, none⟩) (n + 3) cc) (n + 3) ((toI (xr LL hd 0 c)).map (Value.int .u8)) ∧ True) := ⟨HT.out.1, by rw [xr_zero]; exact HT.out.2, trivial⟩
          clear HT x41
          go_loopw [20] (fun ix wr => ∃ j : Nat, ix = .int .i64 j ∧ j ≤ dn ∧ Hid (Ch (fun q => q = g) w5 wr ∧ wr.ownsRow w1.heap.size 5 1 (.slice (some ⟨g, 0, none⟩) (n + 3) cc) (n + 3) ((toI (xr (LL) hd j c)).map (Value.int .u8)) ∧ True)) (fun ix _ => dn - (intOf ix).toNat)
          case atStart => exact ⟨0, rfl, Nat.zero_le _, HY1⟩
          case round =>
            obtain ⟨j, rfl, hj, HX⟩ := hrel
            have x42 := (CHO.out wr HX.out.1).c42
            by_cases hjl : j < dn
            · have hdg := HDG.out (by omega)
              rw [hdg] at x42
              have hpl : hd + j < n + 3 := by omega
              obtain ⟨g', o', e1, hcs⟩ := seg_at (owns_at HX.out.2.1).1 0 (by rw [xr_len, HLN.out]; omega)
              have e2 := Option.some.inj e1
              simp only [Addr.mk.injEq, and_true] at e2
              obtain ⟨rfl, rfl⟩ := e2
              have cx := hcs (hd + j) (by rw [xr_len, HLN.out]; exact hpl)
              rw [Nat.zero_add, xr_next _ _ _ _ (by rw [HLN.out]; exact hpl)] at cx
              have zx := own_fz6 HX.out.2.1 (hd + j)
              have xl : (LL).getD (hd + j) 0 < 256 := I4.getD_lt _ HL256.out _
              have hnew := set_own6 (i := hd + j) (y := (LL).getD (hd + j) 0 ^^^ c) HX.out.2.1 (by rw [xr_len, HLN.out])
              rw [xr_step] at hnew
              obtain ⟨xv, hxv⟩ : ∃ xv, xv = (LL).getD (hd + j) 0 := ⟨_, rfl⟩
              rw [← hxv] at cx xl hnew
              have HNEW : Hid _ := hnew
              have xb : bits .xor .u8 (xv : Int) (c : Int) = ((xv ^^^ c : Nat) : Int) := u8_xor_nat xv c xl lc256
              have j0 : (0 : Int) ≤ (j : Int) := by omega
              have j1 : (j : Int) < (dn : Int) := by omega
              have j2' : ((j : Int)).toNat = j := by omega
              have wj : IntKind.i64.wrap ((j : Int) + 1) = (j : Int) + 1 := by rw [IntKind.wrap_i64]; omega
              have HFB : Hid (∀ A, H4At A O P (.slice la Kn lc) (.slice dA dn dn) → A.cell? ⟨O, 42, none⟩ = some (.slice (some ⟨g, hd, none⟩) dn dn)) := fun A hA => by have h1 := hA.c42; rw [HDG.out (by omega)] at h1; exact h1
              have hB0 : H4At wr O P (.slice la Kn lc) (.slice dA dn dn) := CHO.out wr HX.out.1
              have CX : Hid (Ch (fun q => q = g) w5 wr) := HX.out.1
              have HNG : Hid (O ≠ g) := by have := HGO.out; show O ≠ g; omega
              have HX3 : Hid _ := HX.out
              clear e1 hcs hnew hxv HX hdg
              go_wp2
              refine MixH.start (fun x => H4At x O P (.slice la Kn lc) (.slice dA dn dn)) (by kernel_rfl) ?_
              obtain ⟨wA, hwA⟩ : ∃ wA, wA = wr.drew := ⟨_, rfl⟩
              have hS : H4At wA O P (.slice la Kn lc) (.slice dA dn dn) := by rw [hwA]; exact hB0
              have cA : wA.cell? ⟨g, hd + j, none⟩ = some (.int .u8 (xv : Int)) := by rw [hwA]; exact cx
              have zA : wA.frozen? ⟨g, hd + j, none⟩ = false := by rw [hwA]; exact zx
              have bA : Below wr.heap.size wr wA := by rw [hwA]; exact (Below.refl _ _).drew
              have EQA : Hid (∀ v, Ch (fun q => q = g) wA (wA.setCell ⟨g, hd + j, none⟩ v)) := fun v => (Ch.refl _ _).set _ _ rfl
              have NWA : Hid ((wA.setCell ⟨g, hd + j, none⟩ (.int .u8 ((xv ^^^ c : Nat) : Int))).ownsRow w1.heap.size 5 1 (.slice (some ⟨g, 0, none⟩) (n + 3) cc) (n + 3) ((toI (xr (LL) hd (j + 1) c)).map (Value.int .u8))) := by rw [hwA]; exact HNEW.out
              rw [← hwA]
              clear hwA cx zx hB0 HNEW
              refine MixH.takes [true, false, true, true, false, true, false, false, true] 7 (by kernel_rfl) (by kernel_rfl) (by decide) (by kernel_rfl) hS (fun K hK => ?_)
              simp only [Mix.pick]
              repeat (go_big_quiet_step (fail))
              refine wpQuiet_nil (hK _ ?_)
              clear hK K
              refine MixH.take 6 1 _ (.slice (some ⟨g, hd, none⟩) dn dn) rfl (by kernel_rfl) (by kernel_rfl) (by kernel_rfl) (by kernel_rfl) (yields_bytes (.tmp 178) rfl ⟨O, 42, none⟩ _ rfl rfl HFB.out) hS (fun a' ha => ?_)
              simp only [Act.put, List.setIfInBounds_toArray, List.set_cons_succ, List.set_cons_zero] at ha
              subst ha
              refine MixH.take 5 4 _ (.slice (some ⟨g, hd, none⟩) dn dn) rfl (by kernel_rfl) (by kernel_rfl) (by kernel_rfl) (by kernel_rfl) (yields_bytes (.tmp 181) rfl ⟨O, 42, none⟩ _ rfl rfl HFB.out) hS (fun a' ha => ?_)
              simp only [Act.put, List.setIfInBounds_toArray, List.set_cons_succ, List.set_cons_zero] at ha
              subst ha
              refine MixH.takes [false, false, false, false, false, false, true] 4 (by kernel_rfl) (by kernel_rfl) (by decide) (by kernel_rfl) hS (fun K hK => ?_)
              simp only [Mix.pick]
              repeat (go_big_quiet_step (fail))
              refine wpQuiet_nil (hK _ ?_)
              clear hK K
              refine MixH.one [false, false, false, false, false, false, false, true] 3 7 _ rfl rfl (by kernel_rfl) (by kernel_rfl) (fun K hK => ?_)
              simp only [Mix.pick]
              go_wp2
              refine ⟨rfl, hK _ _ hS ?_⟩
              clear hK K
              refine MixH.takes [false, false, false, false, false, false, false, false, false, true] 2 (by kernel_rfl) (by kernel_rfl) (by decide) (by kernel_rfl) hS (fun K hK => ?_)
              simp only [Mix.pick]
              repeat (go_big_quiet_step (fail))
              refine wpQuiet_nil (hK _ ?_)
              clear hK K
              refine MixH.takes [false, false, false, false, false, false, false, false, false, false, true] 1 (by kernel_rfl) (by kernel_rfl) (by decide) (by kernel_rfl) hS (fun K hK => ?_)
              simp only [Mix.pick]
              repeat (go_big_quiet_step (fail))
              refine wpQuiet_nil (hK _ ?_)
              clear hK K
              refine MixH.one [false, false, false, false, false, false, false, false, false, false, false, true] 0 11 _ rfl rfl (by kernel_rfl) (by kernel_rfl) (fun K hK => ?_)
              simp only [Mix.pick]
              have hS2 : H4At (wA.setCell ⟨g, hd + j, none⟩ (.int .u8 ((xv ^^^ c : Nat) : Int))) O P (.slice la Kn lc) (.slice dA dn dn) := hS.ch (EQA.out _) (fun e => HNG.out e)
              go_wp2
              clear hS
              have hS := hS2
              refine ⟨rfl, hK _ _ hS ?_⟩
              clear hK K
              refine MixH.done (by kernel_rfl) ?_
              have HNX : Hid (Ch (fun q => q = g) w5 (wA.setCell ⟨g, hd + j, none⟩ (.int .u8 ((xv ^^^ c : Nat) : Int))) ∧ (wA.setCell ⟨g, hd + j, none⟩ (.int .u8 ((xv ^^^ c : Nat) : Int))).ownsRow w1.heap.size 5 1 (.slice (some ⟨g, 0, none⟩) (n + 3) cc) (n + 3) ((toI (xr (LL) hd (j + 1) c)).map (Value.int .u8)) ∧ True) := ⟨(CX.out.trans (Ch.ofBelow (S := fun _ => False) bA) (fun _ _ e => e.elim)).set _ _ rfl, NWA.out, trivial⟩
              clear hS2 bA cA zA
              go_wp2
              go_roundw
              case rel => exact ⟨j + 1, by go_num, by omega, HNX⟩
              case measure => simp [intOf]; omega
            · have hni : ¬ ((j : Int) < (dn : Int)) := by omega
              have ej : j = dn := by omega
              have HXD : Hid (Ch (fun q => q = g) w5 wr ∧ wr.ownsRow w1.heap.size 5 1 (.slice (some ⟨g, 0, none⟩) (n + 3) cc) (n + 3) ((toI (xr (LL) hd dn c)).map (Value.int .u8)) ∧ True) := by have h1 := HX.out; rw [ej] at h1; exact h1
              clear hjl ej HX hj
              have CX : Ch (fun q => q = g) w5 wr := HXD.out.1
              obtain ⟨bx, hbx⟩ : ∃ bx, bx = xr bs hd dn c := ⟨_, rfl⟩
              have HBX : Hid (bx = xr bs hd dn c) := hbx
              have hxl : xr LL hd dn c = bx ++ [91, 92, 93] := by rw [HLL.out, hbx]; exact xr_app _ _ _ _ _ (by rw [HN.out]; omega)
              have HBL : Hid (bx.length = n) := by show _ = _; rw [hbx, xr_len]; exact HN.out
              have HB256 : Hid (∀ x ∈ bx, x < 256) := by rw [hbx]; exact xr_256 _ _ _ _ H256.out lc256
              have HTX := taken_xr HTK.out dn c
              rw [← HHD.out, ← hbx] at HTX
              have HPE2 : Hid (I4.pE bx = 0) := (I4.pE_zero bx).2 HTX.1
              have HX2 : Hid (I4.hdL bx = hd ∧ I4.tlL bx - I4.hdL bx = dn) := ⟨HTX.2.1, by rw [HTX.2.2, HTX.2.1, HHD.out]; exact HDN.out.symm⟩
              have QP2 : Hid _ := HPAR.out wr bx (CHB.out wr CX) HBL.out HB256.out (by rw [← hxl]; exact HXD.out.2.1)
              rw [HPE2.out] at QP2
              clear hbx HTX hxl
              go_wp2_with fail
              refine Calls.mono QP2.out ?_
              rintro e wD ⟨C2, rfl, hbD, hr2⟩
              rcases hr2 with ⟨hne, _⟩ | ⟨_, hrd2⟩
              case inl => exact absurd rfl hne
              obtain ⟨lx, K2, lc2, qs2, rfl, hok2, _⟩ := hrd2.ex
              rw [HX2.out.2, HX2.out.1, ← HDE.out] at hok2 ⊢
              obtain ⟨P2, hP2⟩ : ∃ P2, P2 = I4.pH bx := ⟨_, rfl⟩
              rw [← hP2] at hok2 ⊢
              have HOKD : Hid (H4Ok wD P2 lx K2 lc2 qs2 dA dn dn) := hok2
              clear hrd2 hok2 hP2 QP2
              go_upto_region 42 with (first | (refine wpList_alloc_h4 rfl rfl ?_) | (refine wpList_store_h4 (.tmp 21) (.tmp 192) rfl rfl wD.heap.size h4z P2 nilS nilS (.slice lx K2 lc2) (.slice dA dn dn) rfl rfl rfl rfl (h4At_new _ _ _ _) rfl ?_))
              intro wE hPE kE
              have sbE := stored_below kE
              have bE : Below wr.heap.size wr wE := bthen hbD sbE
              obtain ⟨O21, hO21⟩ : ∃ O21, O21 = wD.heap.size := ⟨_, rfl⟩
              rw [← hO21] at hPE ⊢
              have CE : Ch (fun q => q = g) w5 wE := CX.trans (Ch.ofBelow (S := fun _ => False) bE) (fun _ _ e => e.elim)
              have HE21 : Hid (H4At wE O21 P2 (.slice lx K2 lc2) (.slice dA dn dn)) := hPE
              have HO21 : Hid (g < O21) := by have h1 := (HXD.out.2.1.lt g rfl).2; have h2 := hbD.size; show g < O21; omega
              have HY0 : Hid (Ch (fun q => q = g) w5 wE ∧ wE.ownsRow w1.heap.size 5 1 (.slice (some ⟨g, 0, none⟩) (n + 3) cc) (n + 3) ((toI (xr (xr LL hd dn c) hd 0 c)).map (Value.int .u8)) ∧ H4At wE O21 P2 (.slice lx K2 lc2) (.slice dA dn dn)) := ⟨CE, by rw [xr_zero]; exact owns_below HXD.out.2.1 bE, hPE⟩
              have f42 := HE21.out.c42
              have h42 := (CHO.out wE CE).c42
              have hk2 := HOKD.out.old sbE
              have QA : Hid _ := alike_any dA dA dn dn dn dn P2.data P2.data wE hk2.dl hk2.dl hk2.seg hk2.seg hk2.d256 hk2.d256
              rw [decide_eq_true rfl] at QA
              clear hPE kE sbE hbD bE hO21 HXD hk2 HOKD
              go_wp2_with fail
              refine Calls.mono (num_any 0 wE) ?_
              rintro e wN ⟨rfl, rfl⟩
              go_wp2_with fail
              refine Calls.mono QA.out ?_
              rintro e wN ⟨rfl, rfl⟩
              clear QA f42 h42 CX
              go_wp2
              go_loopw [23] (fun ix wr => ∃ j : Nat, ix = .int .i64 j ∧ j ≤ dn ∧ Hid (Ch (fun q => q = g) w5 wr ∧ wr.ownsRow w1.heap.size 5 1 (.slice (some ⟨g, 0, none⟩) (n + 3) cc) (n + 3) ((toI (xr (xr LL hd dn c) hd j c)).map (Value.int .u8)) ∧ H4At wr O21 P2 (.slice lx K2 lc2) (.slice dA dn dn))) (fun ix _ => dn - (intOf ix).toNat)
              case atStart => exact ⟨0, rfl, Nat.zero_le _, HY0⟩
              case round =>
                obtain ⟨j, rfl, hj, HX⟩ := hrel
                have x42 := (CHO.out wr HX.out.1).c42
                by_cases hjl : j < dn
                · have hdg := HDG.out (by omega)
                  rw [hdg] at x42
                  have hpl : hd + j < n + 3 := by omega
                  obtain ⟨g', o', e1, hcs⟩ := seg_at (owns_at HX.out.2.1).1 0 (by rw [xr_len, xr_len, HLN.out]; omega)
                  have e2 := Option.some.inj e1
                  simp only [Addr.mk.injEq, and_true] at e2
                  obtain ⟨rfl, rfl⟩ := e2
                  have cx := hcs (hd + j) (by rw [xr_len, xr_len, HLN.out]; exact hpl)
                  rw [Nat.zero_add, xr_next _ _ _ _ (by rw [xr_len, HLN.out]; exact hpl)] at cx
                  have zx := own_fz6 HX.out.2.1 (hd + j)
                  have xl : (xr LL hd dn c).getD (hd + j) 0 < 256 := I4.getD_lt _ (xr_256 _ _ _ _ HL256.out lc256) _
                  have hnew := set_own6 (i := hd + j) (y := (xr LL hd dn c).getD (hd + j) 0 ^^^ c) HX.out.2.1 (by rw [xr_len, xr_len, HLN.out])
                  rw [xr_step] at hnew
                  obtain ⟨xv, hxv⟩ : ∃ xv, xv = (xr LL hd dn c).getD (hd + j) 0 := ⟨_, rfl⟩
                  rw [← hxv] at cx xl hnew
                  have HNEW : Hid _ := hnew
                  have xb : bits .xor .u8 (xv : Int) (c : Int) = ((xv ^^^ c : Nat) : Int) := u8_xor_nat xv c xl lc256
                  have j0 : (0 : Int) ≤ (j : Int) := by omega
                  have j1 : (j : Int) < (dn : Int) := by omega
                  have j2' : ((j : Int)).toNat = j := by omega
                  have wj : IntKind.i64.wrap ((j : Int) + 1) = (j : Int) + 1 := by rw [IntKind.wrap_i64]; omega
                  have HFB : Hid (∀ A, H4At A O21 P2 (.slice lx K2 lc2) (.slice dA dn dn) → A.cell? ⟨O21, 42, none⟩ = some (.slice (some ⟨g, hd, none⟩) dn dn)) := fun A hA => by have h1 := hA.c42; rw [HDG.out (by omega)] at h1; exact h1
                  have hB0 : H4At wr O21 P2 (.slice lx K2 lc2) (.slice dA dn dn) := HX.out.2.2
                  have CX : Hid (Ch (fun q => q = g) w5 wr) := HX.out.1
                  have HNG : Hid (O21 ≠ g) := by have := HO21.out; show O21 ≠ g; omega
                  have HX3 : Hid _ := HX.out
                  clear e1 hcs hnew hxv HX hdg
                  go_wp2
                  refine MixH.start (fun x => H4At x O21 P2 (.slice lx K2 lc2) (.slice dA dn dn)) (by kernel_rfl) ?_
                  obtain ⟨wA, hwA⟩ : ∃ wA, wA = wr.drew := ⟨_, rfl⟩
                  have hS : H4At wA O21 P2 (.slice lx K2 lc2) (.slice dA dn dn) := by rw [hwA]; exact hB0
                  have cA : wA.cell? ⟨g, hd + j, none⟩ = some (.int .u8 (xv : Int)) := by rw [hwA]; exact cx
                  have zA : wA.frozen? ⟨g, hd + j, none⟩ = false := by rw [hwA]; exact zx
                  have bA : Below wr.heap.size wr wA := by rw [hwA]; exact (Below.refl _ _).drew
                  have EQA : Hid (∀ v, Ch (fun q => q = g) wA (wA.setCell ⟨g, hd + j, none⟩ v)) := fun v => (Ch.refl _ _).set _ _ rfl
                  have NWA : Hid ((wA.setCell ⟨g, hd + j, none⟩ (.int .u8 ((xv ^^^ c : Nat) : Int))).ownsRow w1.heap.size 5 1 (.slice (some ⟨g, 0, none⟩) (n + 3) cc) (n + 3) ((toI (xr (xr LL hd dn c) hd (j + 1) c)).map (Value.int .u8))) := by rw [hwA]; exact HNEW.out
                  rw [← hwA]
                  clear hwA cx zx hB0 HNEW
                  refine MixH.takes [true, false, true, true, false, true, false, false, true] 7 (by kernel_rfl) (by kernel_rfl) (by decide) (by kernel_rfl) hS (fun K hK => ?_)
                  simp only [Mix.pick]
                  repeat (go_big_quiet_step (fail))
                  refine wpQuiet_nil (hK _ ?_)
                  clear hK K
                  refine MixH.take 6 1 _ (.slice (some ⟨g, hd, none⟩) dn dn) rfl (by kernel_rfl) (by kernel_rfl) (by kernel_rfl) (by kernel_rfl) (yields_bytes (.tmp 212) rfl ⟨O21, 42, none⟩ _ rfl rfl HFB.out) hS (fun a' ha => ?_)
                  simp only [Act.put, List.setIfInBounds_toArray, List.set_cons_succ, List.set_cons_zero] at ha
                  subst ha
                  refine MixH.take 5 4 _ (.slice (some ⟨g, hd, none⟩) dn dn) rfl (by kernel_rfl) (by kernel_rfl) (by kernel_rfl) (by kernel_rfl) (yields_bytes (.tmp 215) rfl ⟨O21, 42, none⟩ _ rfl rfl HFB.out) hS (fun a' ha => ?_)
                  simp only [Act.put, List.setIfInBounds_toArray, List.set_cons_succ, List.set_cons_zero] at ha
                  subst ha
                  refine MixH.takes [false, false, false, false, false, false, true] 4 (by kernel_rfl) (by kernel_rfl) (by decide) (by kernel_rfl) hS (fun K hK => ?_)
                  simp only [Mix.pick]
                  repeat (go_big_quiet_step (fail))
                  refine wpQuiet_nil (hK _ ?_)
                  clear hK K
                  refine MixH.one [false, false, false, false, false, false, false, true] 3 7 _ rfl rfl (by kernel_rfl) (by kernel_rfl) (fun K hK => ?_)
                  simp only [Mix.pick]
                  go_wp2
                  refine ⟨rfl, hK _ _ hS ?_⟩
                  clear hK K
                  refine MixH.takes [false, false, false, false, false, false, false, false, false, true] 2 (by kernel_rfl) (by kernel_rfl) (by decide) (by kernel_rfl) hS (fun K hK => ?_)
                  simp only [Mix.pick]
                  repeat (go_big_quiet_step (fail))
                  refine wpQuiet_nil (hK _ ?_)
                  clear hK K
                  refine MixH.takes [false, false, false, false, false, false, false, false, false, false, true] 1 (by kernel_rfl) (by kernel_rfl) (by decide) (by kernel_rfl) hS (fun K hK => ?_)
                  simp only [Mix.pick]
                  repeat (go_big_quiet_step (fail))
                  refine wpQuiet_nil (hK _ ?_)
                  clear hK K
                  refine MixH.one [false, false, false, false, false, false, false, false, false, false, false, true] 0 11 _ rfl rfl (by kernel_rfl) (by kernel_rfl) (fun K hK => ?_)
                  simp only [Mix.pick]
                  have hS2 : H4At (wA.setCell ⟨g, hd + j, none⟩ (.int .u8 ((xv ^^^ c : Nat) : Int))) O21 P2 (.slice lx K2 lc2) (.slice dA dn dn) := hS.ch (EQA.out _) (fun e => HNG.out e)
                  go_wp2
                  clear hS
                  have hS := hS2
                  refine ⟨rfl, hK _ _ hS ?_⟩
                  clear hK K
                  refine MixH.done (by kernel_rfl) ?_
                  have HNX : Hid (Ch (fun q => q = g) w5 (wA.setCell ⟨g, hd + j, none⟩ (.int .u8 ((xv ^^^ c : Nat) : Int))) ∧ (wA.setCell ⟨g, hd + j, none⟩ (.int .u8 ((xv ^^^ c : Nat) : Int))).ownsRow w1.heap.size 5 1 (.slice (some ⟨g, 0, none⟩) (n + 3) cc) (n + 3) ((toI (xr (xr LL hd dn c) hd (j + 1) c)).map (Value.int .u8)) ∧ H4At (wA.setCell ⟨g, hd + j, none⟩ (.int .u8 ((xv ^^^ c : Nat) : Int))) O21 P2 (.slice lx K2 lc2) (.slice dA dn dn)) := ⟨(CX.out.trans (Ch.ofBelow (S := fun _ => False) bA) (fun _ _ e => e.elim)).set _ _ rfl, NWA.out, hS2⟩
                  clear hS2 bA cA zA
                  go_wp2
                  go_roundw
                  case rel => exact ⟨j + 1, by go_num, by omega, HNX⟩
                  case measure => simp [intOf]; omega
                · have hni : ¬ ((j : Int) < (dn : Int)) := by omega
                  have ej : j = dn := by omega
                  have HXD : Hid (Ch (fun q => q = g) w5 wr ∧ wr.ownsRow w1.heap.size 5 1 (.slice (some ⟨g, 0, none⟩) (n + 3) cc) (n + 3) ((toI (xr (xr LL hd dn c) hd dn c)).map (Value.int .u8)) ∧ H4At wr O21 P2 (.slice lx K2 lc2) (.slice dA dn dn)) := by have h1 := HX.out; rw [ej] at h1; exact h1
                  clear hjl ej HX hj
                  have RB : Hid (wr.ownsRow w1.heap.size 5 1 (.slice (some ⟨g, 0, none⟩) (n + 3) cc) (n + 3) ((toI LL).map (Value.int .u8))) := by have h1 := HXD.out.2.1; rw [xr_back] at h1; exact h1
                  have CX : Ch (fun q => q = g) w5 wr := HXD.out.1
                  have QP3 : Hid _ := HPAR.out wr bs (CHB.out wr CX) HN.out H256.out (by rw [← HLL.out]; exact RB.out)
                  rw [← HE.out] at QP3
                  clear HXD
                  go_wp2_with fail
                  refine Calls.mono QP3.out ?_
                  rintro e wD ⟨C3, rfl, hbD, hr3⟩
                  rcases hr3 with ⟨hne, _⟩ | ⟨_, hrd3⟩
                  case inl => exact absurd rfl hne
                  obtain ⟨lx3, K3, lc3, qs3, rfl, hok3, _⟩ := hrd3.ex
                  rw [← HDN.out, ← HHD.out, ← HDE.out, ← HPP.out]
                  clear hrd3 hok3 QP3
                  go_upto_region 49 with (first | (refine wpList_alloc_h4 rfl rfl ?_) | (refine wpList_store_h4 (.tmp 24) (.tmp 226) rfl rfl wD.heap.size h4z P nilS nilS (.slice lx3 K3 lc3) (.slice dA dn dn) rfl rfl rfl rfl (h4At_new _ _ _ _) rfl ?_))
                  intro wE hPE kE
                  have bE : Below wr.heap.size wr wE := bthen hbD (stored_below kE)
                  have CE : Ch (fun q => q = g) w5 wE := CX.trans (Ch.ofBelow (S := fun _ => False) bE) (fun _ _ e => e.elim)
                  have RE : Hid (wE.ownsRow w1.heap.size 5 1 (.slice (some ⟨g, 0, none⟩) (n + 3) cc) (n + 3) ((toI LL).map (Value.int .u8))) := owns_below RB.out bE
                  have HE3 : Hid (H4At wE wD.heap.size P (.slice lx3 K3 lc3) (.slice dA dn dn)) := hPE
                  clear hPE kE hbD bE RB CX
                  have BEND := CHB.out wE CE
                  go_wp2_with fail
                  refine Calls.mono (num_any 0 wE) ?_
                  rintro e wN ⟨rfl, rfl⟩
                  have f42 := HE3.out.c42
                  have h42 := (CHO.out wE CE).c42
                  have QA : Hid _ := alike_any dA dA dn dn dn dn P.data P.data wE HOK5.out.dl HOK5.out.dl (SGD.out wE RE.out) (SGD.out wE RE.out) HOK5.out.d256 HOK5.out.d256
                  rw [decide_eq_true rfl] at QA
                  go_wp2_with fail
                  refine Calls.mono QA.out ?_
                  rintro e wN ⟨rfl, rfl⟩
                  go_wp2_with fail
                  refine Calls.mono (KEPT.out wE CE RE.out) ?_
                  rintro e wN ⟨rfl, rfl⟩
                  go_wp2
                  go_ret
                  exact ⟨rfl, BEND⟩
end Go.Proofs.YtdinhgfkpjaipaaDoor
