/-
  Layer 4: addr.reader: four.
-/
import Derived.Test.YteldiggaooeeeaaGreatDoorAdW4
namespace Go.Proofs.YteldiggaooeeeaaGreatDoor
open Go.RowKit Go.Maps

/-- bytes written into a block's cells from o on -/
def wrL (C : Array Value) (o : Nat) (l : List Nat) : Array Value := (List.range l.length).foldl (fun A k => A.setIfInBounds (o + k) (.int .u8 (l.getD k 0 : Nat))) C
theorem wrL_nil (C : Array Value) (o : Nat) : wrL C o [] = C := rfl
theorem wrL_pre (C : Array Value) (o : Nat) (l : List Nat) (n : Nat) : ∀ m, m ≤ l.length → (List.range m).foldl (fun A k => A.setIfInBounds (o + k) (.int .u8 ((l ++ [n]).getD k 0 : Nat))) C = (List.range m).foldl (fun A k => A.setIfInBounds (o + k) (.int .u8 (l.getD k 0 : Nat))) C
  | 0, _ => rfl
  | m + 1, h => by
    rw [List.range_succ, List.foldl_append, List.foldl_append, wrL_pre C o l n m (by omega)]
    simp only [List.foldl_cons, List.foldl_nil]
    rw [List.getD_eq_getElem?_getD, List.getElem?_append_left (by omega), ← List.getD_eq_getElem?_getD]
theorem wrL_snoc (C : Array Value) (o : Nat) (l : List Nat) (n : Nat) : wrL C o (l ++ [n]) = (wrL C o l).setIfInBounds (o + l.length) (.int .u8 (n : Nat)) := by
  unfold wrL
  rw [List.length_append, List.length_cons, List.length_nil, List.range_succ, List.foldl_append, wrL_pre C o l n l.length (Nat.le_refl _)]
  simp only [List.foldl_cons, List.foldl_nil]
  rw [List.getD_eq_getElem?_getD, List.getElem?_append_right (Nat.le_refl _), Nat.sub_self]
  rfl
theorem wrL_fold (C : Array Value) (o : Nat) (l : List Nat) : ∀ m i, m ≤ i → ((List.range m).foldl (fun A k => A.setIfInBounds (o + k) (.int .u8 (l.getD k 0 : Nat))) C)[o + i]? = C[o + i]?
  | 0, _, _ => rfl
  | m + 1, i, h => by
    rw [List.range_succ, List.foldl_append]
    simp only [List.foldl_cons, List.foldl_nil]
    rw [Array.getElem?_setIfInBounds_ne (by omega)]
    exact wrL_fold C o l m i (by omega)
theorem wrL_at (C : Array Value) (o : Nat) (l : List Nat) {i : Nat} (h : l.length ≤ i) : (wrL C o l)[o + i]? = C[o + i]? := wrL_fold C o l l.length i h
/-- four's loop, behind i numbers -/
def dtA (s : ByteArray) (i q : Nat) (l : List Nat) : Sum (List Nat) (Nat × Nat) := if i == 0 then dtd s 4 q l else if i == 4 then dtd s 0 q l else if decide (s.size ≤ q) || sB s q != 46 then .inr (hrE s q) else dtd s (4 - i) (q + 1) l
theorem dtA_dot {s : ByteArray} {i q : Nat} {l : List Nat} (hi : i < 4) (h0 : i ≠ 0) (h : (decide (q < s.size) && sB s q == 46) = false) : dtA s i q l = .inr (hrE s q) := by
  unfold dtA
  rw [if_neg (by simp [h0]), if_neg (by simp; omega), if_pos]
  simp at h ⊢
  omega
theorem dtA_go {s : ByteArray} {i q : Nat} {l : List Nat} (hi : i < 4) (h0 : i ≠ 0) (h : (decide (q < s.size) && sB s q == 46) = true) : dtA s i q l = dtd s (4 - i) (q + 1) l := by
  unfold dtA
  rw [if_neg (by simp [h0]), if_neg (by simp; omega), if_neg]
  simp at h ⊢
  omega
theorem dtA_zero (s : ByteArray) (q : Nat) (l : List Nat) : dtA s 0 q l = dtd s 4 q l := rfl
theorem dtd_no {s : ByteArray} {m p : Nat} {l : List Nat} (h : scP s dgB p = p) : dtd s (m + 1) p l = .inr (hrE s p) := by
  unfold dtd
  rw [h, if_pos (by simp)]
theorem dtd_why {s : ByteArray} {m p q : Nat} {l : List Nat} (h : scP s dgB p = q) (hq : q ≠ p) (hd : dcm s p q 255 < 0) : dtd s (m + 1) p l = .inr (43, p) := by
  unfold dtd
  rw [h, if_neg (by simpa using hq), if_pos (by simpa using hd)]
theorem dtd_yes {s : ByteArray} {i p q n : Nat} {l : List Nat} (hi : i < 4) (h : scP s dgB p = q) (hq : q ≠ p) (hd : dcm s p q 255 = (n : Int)) : dtd s (4 - i) p l = dtA s (i + 1) q (l ++ [n]) := by
  obtain ⟨m, hm⟩ : ∃ m, 4 - i = m + 1 := ⟨3 - i, by omega⟩
  have e1 : (q == p) = false := by simp [hq]
  have e2 : decide ((n : Int) < 0) = false := decide_eq_false (by omega)
  have e3 : (i + 1 == 0) = false := by simp
  rw [hm]
  unfold dtA
  conv => lhs; unfold dtd
  rw [h, hd, e1, e2, e3]
  simp only [Bool.false_eq_true, if_false, Int.toNat_natCast]
  by_cases h3 : i = 3
  · have : m = 0 := by omega
    subst this
    subst h3
    rfl
  · have e4 : (m == 0) = false := by simp; omega
    have e5 : (i + 1 == 4) = false := by simp; omega
    rw [e4, e5, show 4 - (i + 1) = m by omega]
/-- what four answers -/
def FrR (s : ByteArray) (p0 R P o : Nat) (C : Array Value) (t : TypeId) (r : Ending) (w' : World) : Prop := match dtd s 4 p0 [] with
  | .inr e => r = .returned (.int .i64 (e.1 : Nat)) ∧ RdAt w' R s e.2
  | .inl l => r = .returned (.int .i64 0) ∧ RdAt w' R s s.size ∧ w'.heap[P]? = some (.cells (wrL C o l) t (0, 0))
theorem FrR.no {s : ByteArray} {p0 R P o : Nat} {C : Array Value} {t : TypeId} {r : Ending} {w' : World} {e : Nat × Nat} (h : dtd s 4 p0 [] = .inr e) (hr : r = .returned (.int .i64 (e.1 : Nat))) (hw : RdAt w' R s e.2) : FrR s p0 R P o C t r w' := by unfold FrR; rw [h]; exact ⟨hr, hw⟩
theorem FrR.yes {s : ByteArray} {p0 R P o : Nat} {C : Array Value} {t : TypeId} {r : Ending} {w' : World} {l : List Nat} (h : dtd s 4 p0 [] = .inl l) (hr : r = .returned (.int .i64 0)) (hw : RdAt w' R s s.size) (hP : w'.heap[P]? = some (.cells (wrL C o l) t (0, 0))) : FrR s p0 R P o C t r w' := by unfold FrR; rw [h]; exact ⟨hr, hw, hP⟩
/-- the reader and the block beside it -/
def RP (w A : World) (R P : Nat) (s : ByteArray) (p : Nat) (C : Array Value) (t : TypeId) : Prop := RdAt A R s p ∧ A.heap[P]? = some (.cells C t (0, 0)) ∧ Ch (fun k => k = R ∨ k = P) w A
theorem RP.rd {w A B : World} {R P : Nat} {s : ByteArray} {p q : Nat} {C : Array Value} {t : TypeId} (h : RP w A R P s p C t) (hne : P ≠ R) (c : RdC A B R s q) : RP w B R P s q C t :=
  ⟨c.1, (c.2.block P (Array.getElem?_eq_some_iff.1 h.2.1).1 hne).trans h.2.1, h.2.2.trans c.2 (fun _ _ h => .inl h)⟩
theorem RP.no {w A B : World} {R P : Nat} {s : ByteArray} {p : Nat} {C : Array Value} {t : TypeId} (h : RP w A R P s p C t) (hne : P ≠ R) (c : NoCh A B) : RP w B R P s p C t := h.rd hne ⟨rd_no h.1 c, c.mono (fun _ _ h => h.elim)⟩
theorem RP.cell {w A : World} {R P : Nat} {s : ByteArray} {p : Nat} {C : Array Value} {t : TypeId} (h : RP w A R P s p C t) (i : Nat) : A.cell? ⟨P, i, none⟩ = C[i]? := by have := h.2.1; simp [World.cell?, this]
theorem RP.fz {w A : World} {R P : Nat} {s : ByteArray} {p : Nat} {C : Array Value} {t : TypeId} (h : RP w A R P s p C t) (i : Nat) : A.frozen? ⟨P, i, none⟩ = false := by have := h.2.1; simp [World.frozen?, this]
theorem RP.set {w A : World} {R P : Nat} {s : ByteArray} {p : Nat} {C : Array Value} {t : TypeId} (h : RP w A R P s p C t) (hne : P ≠ R) (i : Nat) (v : Value) : RP w (A.setCell ⟨P, i, none⟩ v) R P s p (C.setIfInBounds i v) t :=
  ⟨h.1.ch ((Ch.refl (fun k => k = P) A).set ⟨P, i, none⟩ v rfl) (fun e => hne e.symm), heap_setCell_same A P i C _ v h.2.1, h.2.2.set ⟨P, i, none⟩ v (.inr rfl)⟩
set_option maxHeartbeats 1600000 in
set_option maxRecDepth 100000 in
theorem four_any (R P o cap : Nat) (s : ByteArray) (p0 : Nat) (C : Array Value) (t : TypeId) (w : World) (h : RdAt w R s p0) (hP : w.heap[P]? = some (.cells C t (0, 0))) (hne : P ≠ R) (hC : ∀ k, k < 4 → ∃ z, C[o + k]? = some (.int .u8 z)) (hp : p0 ≤ s.size) (hs : s.size ≤ 1000) : Calls Tryz.prog 17 #[.pointer (some ⟨R, 0, none⟩), .slice (some ⟨P, o, none⟩) 4 cap] w fun r w' => FrR s p0 R P o C t r w' ∧ Ch (fun k => k = R ∨ k = P) w w' := by
  have H : Hid (RP w w R P s p0 C t) := ⟨h, hP, Ch.refl _ _⟩
  have HNE : Hid (P ≠ R) := hne
  have HC : Hid (∀ k, k < 4 → ∃ z, C[o + k]? = some (.int .u8 z)) := hC
  have HP : Hid (p0 ≤ s.size ∧ s.size ≤ 1000) := ⟨hp, hs⟩
  clear h hP hne hC hp hs
  go_enter Tryz.func17, Tryz.ntmps17
  go_wp2
  go_loopw [10] (fun ix wr => ∃ (i q : Nat) (l : List Nat), i ≤ 4 ∧ ix = .int .i64 (i : Nat) ∧ Hid (l.length = i ∧ q ≤ s.size ∧ dtA s i q l = dtd s 4 p0 []) ∧ Hid (RP w wr R P s q (wrL C o l) t)) (fun ix _ => 4 - (intOf ix).toNat)
  case atStart => exact ⟨0, p0, [], by omega, rfl, ⟨rfl, HP.out.1, rfl⟩, H.out⟩
  case round =>
    obtain ⟨i, q, l, hi4, rfl, HD, HR⟩ := hrel
    have HI4 : Hid (i ≤ 4) := hi4
    clear hi4
    by_cases hlt : i < 4
    · have p1 : decide ((i : Int) < 4) = true := decide_eq_true (by omega)
      have p2 : decide (i < 4) = true := decide_eq_true hlt
      have p3 : (i : Int) < 4 := by omega
      have HLT : Hid (i < 4) := hlt
      have x3 : IntKind.i64.wrap ((i : Int) + 1) = (i : Int) + 1 := i64_s _ (by omega) (by omega)
      by_cases h0 : i = 0
      · have q1 : decide ((0 : Int) < (i : Int)) = false := decide_eq_false (by omega)
        have q2 : decide (0 < i) = false := decide_eq_false (by omega)
        have HD2 : Hid (l.length = i ∧ q ≤ s.size ∧ dtd s (4 - i) q l = dtd s 4 p0 []) := ⟨HD.out.1, HD.out.2.1, by rw [← HD.out.2.2, h0]; rfl⟩
        have HR2 : Hid (RP w wr R P s q (wrL C o l) t) := HR.out
        have HI0 : Hid (i = 0) := h0
        clear h0 hlt
        go_wp2_with fail
        refine (number_any R s q 255 43 wr HR2.out.1 HD2.out.2.1 HP.out.2).mono ?_
        rintro e w3 ⟨rfl, hn⟩
        have H3 : Hid (RP w w3 R P s (nmP s q 255) (wrL C o l) t) := HR2.out.rd HNE.out hn
        clear hn
        obtain ⟨z, hz⟩ : ∃ z, scP s dgB q = z := ⟨_, rfl⟩
        by_cases hzq : z = q
        · have hno := nm_no (most := 255) (why := 43) (hz.trans hzq)
          rw [hno.1]
          have HZ : Hid (dtd s 4 p0 [] = .inr (hrE s (q))) := by
            show _ = _
            rw [← HD2.out.2.2, show 4 - i = (3 - i) + 1 by have := HLT.out; omega]
            exact dtd_no (hz.trans hzq)
          have H4 : Hid (RP w w3 R P s (q) (wrL C o l) t) := by have := H3.out; rw [hno.2] at this; exact this
          obtain ⟨er, her⟩ : ∃ er : Nat, er = (hrE s (q)).1 := ⟨_, rfl⟩
          have HER : Hid (er = (hrE s (q)).1) := her
          have e1 : (((er : Nat) : Int) != 0) = true := by rw [her]; unfold hrE; split <;> rfl
          rw [← her]
          clear hno hz hzq her
          go_wp2
          go_ret
          exact ⟨FrR.no HZ.out (by rw [← HER.out]; rfl) (by have h1 := H4.out.1; have h2 := HD2.out.2.1; unfold hrE; split <;> first | exact h1 | (rw [show q = s.size by omega] at h1; exact h1)), H4.out.2.2⟩
        · by_cases hneg : dcm s (q) z 255 < 0
          · have hw := nm_why (why := 43) hz hzq hneg
            rw [hw.1]
            have HZ : Hid (dtd s 4 p0 [] = .inr (43, q)) := by
              show _ = _
              rw [← HD2.out.2.2, show 4 - i = (3 - i) + 1 by have := HLT.out; omega]
              exact dtd_why hz hzq hneg
            have H4 : Hid (RP w w3 R P s (q) (wrL C o l) t) := by have := H3.out; rw [hw.2] at this; exact this
            clear hw hz hzq hneg
            go_wp2
            go_ret
            exact ⟨FrR.no HZ.out rfl H4.out.1, H4.out.2.2⟩
          · have hy := nm_yes (why := 43) hz hzq hneg
            obtain ⟨n, hn⟩ : ∃ n : Nat, dcm s (q) z 255 = (n : Int) := ⟨(dcm s (q) z 255).toNat, by omega⟩
            rw [hn] at hy
            rw [hy.1]
            have HN : Hid (n ≤ 255) := by have : dcm s (q) z 255 ≤ 255 := dcm_le; show n ≤ 255; omega
            have HD3 : Hid ((l ++ [n]).length = i + 1 ∧ z ≤ s.size ∧ dtA s (i + 1) z (l ++ [n]) = dtd s 4 p0 []) := ⟨by simp [HD2.out.1], by rw [← hz]; exact scP_le HD2.out.2.1, by rw [← HD2.out.2.2]; exact (dtd_yes HLT.out hz hzq hn).symm⟩
            have H4 : Hid (RP w w3 R P s z (wrL C o l) t) := by have := H3.out; rw [hy.2] at this; exact this
            clear hy hz hzq hneg hn
            obtain ⟨y, hy⟩ := HC.out i HLT.out
            have cP : w3.cell? ⟨P, o + i, none⟩ = some (.int .u8 y) := by rw [H4.out.cell, wrL_at C o l (by have := HD2.out.1; omega)]; exact hy
            have fP := H4.out.fz (o + i)
            have H5 : Hid (RP w (w3.setCell ⟨P, o + i, none⟩ (.int .u8 (n : Nat))) R P s z (wrL C o (l ++ [n])) t) := by
              have h1 := H4.out.set HNE.out (o + i) (.int .u8 (n : Nat))
              show RP _ _ _ _ _ _ _ _
              rw [wrL_snoc, HD2.out.1]
              exact h1
            have x4 : IntKind.u8.wrap (n : Int) = (n : Int) := u8_s _ (by omega) (by have := HN.out; omega)
            have b0 : (0 : Int) ≤ (i : Int) := by omega
            clear hy
            go_wp2
            go_roundw
            case rel => exact ⟨i + 1, z, l ++ [n], HLT.out, by simp, HD3.out, H5.out⟩
            case measure => have := HLT.out; simp [intOf]; omega
      · have q1 : decide ((0 : Int) < (i : Int)) = true := decide_eq_true (by omega)
        have q2 : decide (0 < i) = true := decide_eq_true (by omega)
        have HI0 : Hid (i ≠ 0) := h0
        clear h0 hlt
        obtain ⟨b, hb⟩ : ∃ b, (decide (q < s.size) && sB s q == 46) = b := ⟨_, rfl⟩
        have HB : Hid ((decide (q < s.size) && sB s q == 46) = b) := hb
        have HB2 : Hid (stB s q ⟨#[46]⟩ = b) := (stB_one HD.out.2.1).trans hb
        clear hb
        go_wp2_with fail
        refine (skip_any R s ⟨#[46]⟩ q wr HR.out.1 HD.out.2.1 HP.out.2 (by decide)).mono ?_
        rintro e w1 ⟨rfl, k1, k2⟩
        rw [HB2.out] at k1 ⊢
        cases b with
        | false =>
          have H1 : Hid (RP w w1 R P s q (wrL C o l) t) := HR.out.rd HNE.out ⟨k1, k2⟩
          clear k1 k2
          have HZ : Hid (dtd s 4 p0 [] = .inr (hrE s q)) := HD.out.2.2.symm.trans (dtA_dot HLT.out HI0.out HB.out)
          go_wp2_with fail
          refine (wrong_any R s q w1 H1.out.1 HD.out.2.1).mono ?_
          rintro e w2 ⟨rfl, hn⟩
          have H2 : Hid (RP w w2 R P s q (wrL C o l) t) := H1.out.no HNE.out hn
          clear hn
          go_wp2
          go_ret
          exact ⟨FrR.no HZ.out rfl (by have h1 := H2.out.1; have h2 := HD.out.2.1; unfold hrE; split <;> first | exact h1 | (rw [show q = s.size by omega] at h1; exact h1)), H2.out.2.2⟩
        | true =>
          have HR2 : Hid (RP w w1 R P s (q + 1) (wrL C o l) t) := HR.out.rd HNE.out ⟨k1, k2⟩
          clear k1 k2
          have HD2 : Hid (l.length = i ∧ q + 1 ≤ s.size ∧ dtd s (4 - i) (q + 1) l = dtd s 4 p0 []) := ⟨HD.out.1, by have := HB.out; simp at this; omega, by rw [← HD.out.2.2]; exact (dtA_go HLT.out HI0.out HB.out).symm⟩
          go_wp2_with fail
          refine (number_any R s (q + 1) 255 43 w1 HR2.out.1 HD2.out.2.1 HP.out.2).mono ?_
          rintro e w3 ⟨rfl, hn⟩
          have H3 : Hid (RP w w3 R P s (nmP s (q + 1) 255) (wrL C o l) t) := HR2.out.rd HNE.out hn
          clear hn
          obtain ⟨z, hz⟩ : ∃ z, scP s dgB (q + 1) = z := ⟨_, rfl⟩
          by_cases hzq : z = (q + 1)
          · have hno := nm_no (most := 255) (why := 43) (hz.trans hzq)
            rw [hno.1]
            have HZ : Hid (dtd s 4 p0 [] = .inr (hrE s ((q + 1)))) := by
              show _ = _
              rw [← HD2.out.2.2, show 4 - i = (3 - i) + 1 by have := HLT.out; omega]
              exact dtd_no (hz.trans hzq)
            have H4 : Hid (RP w w3 R P s ((q + 1)) (wrL C o l) t) := by have := H3.out; rw [hno.2] at this; exact this
            obtain ⟨er, her⟩ : ∃ er : Nat, er = (hrE s ((q + 1))).1 := ⟨_, rfl⟩
            have HER : Hid (er = (hrE s ((q + 1))).1) := her
            have e1 : (((er : Nat) : Int) != 0) = true := by rw [her]; unfold hrE; split <;> rfl
            rw [← her]
            clear hno hz hzq her
            go_wp2
            go_ret
            exact ⟨FrR.no HZ.out (by rw [← HER.out]; rfl) (by have h1 := H4.out.1; have h2 := HD2.out.2.1; unfold hrE; split <;> first | exact h1 | (rw [show (q + 1) = s.size by omega] at h1; exact h1)), H4.out.2.2⟩
          · by_cases hneg : dcm s ((q + 1)) z 255 < 0
            · have hw := nm_why (why := 43) hz hzq hneg
              rw [hw.1]
              have HZ : Hid (dtd s 4 p0 [] = .inr (43, (q + 1))) := by
                show _ = _
                rw [← HD2.out.2.2, show 4 - i = (3 - i) + 1 by have := HLT.out; omega]
                exact dtd_why hz hzq hneg
              have H4 : Hid (RP w w3 R P s ((q + 1)) (wrL C o l) t) := by have := H3.out; rw [hw.2] at this; exact this
              clear hw hz hzq hneg
              go_wp2
              go_ret
              exact ⟨FrR.no HZ.out rfl H4.out.1, H4.out.2.2⟩
            · have hy := nm_yes (why := 43) hz hzq hneg
              obtain ⟨n, hn⟩ : ∃ n : Nat, dcm s ((q + 1)) z 255 = (n : Int) := ⟨(dcm s ((q + 1)) z 255).toNat, by omega⟩
              rw [hn] at hy
              rw [hy.1]
              have HN : Hid (n ≤ 255) := by have : dcm s ((q + 1)) z 255 ≤ 255 := dcm_le; show n ≤ 255; omega
              have HD3 : Hid ((l ++ [n]).length = i + 1 ∧ z ≤ s.size ∧ dtA s (i + 1) z (l ++ [n]) = dtd s 4 p0 []) := ⟨by simp [HD2.out.1], by rw [← hz]; exact scP_le HD2.out.2.1, by rw [← HD2.out.2.2]; exact (dtd_yes HLT.out hz hzq hn).symm⟩
              have H4 : Hid (RP w w3 R P s z (wrL C o l) t) := by have := H3.out; rw [hy.2] at this; exact this
              clear hy hz hzq hneg hn
              obtain ⟨y, hy⟩ := HC.out i HLT.out
              have cP : w3.cell? ⟨P, o + i, none⟩ = some (.int .u8 y) := by rw [H4.out.cell, wrL_at C o l (by have := HD2.out.1; omega)]; exact hy
              have fP := H4.out.fz (o + i)
              have H5 : Hid (RP w (w3.setCell ⟨P, o + i, none⟩ (.int .u8 (n : Nat))) R P s z (wrL C o (l ++ [n])) t) := by
                have h1 := H4.out.set HNE.out (o + i) (.int .u8 (n : Nat))
                show RP _ _ _ _ _ _ _ _
                rw [wrL_snoc, HD2.out.1]
                exact h1
              have x4 : IntKind.u8.wrap (n : Int) = (n : Int) := u8_s _ (by omega) (by have := HN.out; omega)
              have b0 : (0 : Int) ≤ (i : Int) := by omega
              clear hy
              go_wp2
              go_roundw
              case rel => exact ⟨i + 1, z, l ++ [n], HLT.out, by simp, HD3.out, H5.out⟩
              case measure => have := HLT.out; simp [intOf]; omega
    · have HE : Hid (i = 4) := by have := HI4.out; show i = 4; omega
      have p1 : decide ((i : Int) < 4) = false := decide_eq_false (by omega)
      have p2 : decide (i < 4) = false := decide_eq_false hlt
      have p3 : ¬ (i : Int) < 4 := by omega
      obtain ⟨b, hb⟩ : ∃ b, (q == s.size) = b := ⟨_, rfl⟩
      have HB : Hid ((q == s.size) = b) := hb
      have HZ : Hid (dtd s 4 p0 [] = if decide (q < s.size) then .inr (41, q) else .inl l) := by show _ = _; rw [← HD.out.2.2, HE.out]; unfold dtA; rw [if_neg (by decide), if_pos (by decide)]; unfold dtd; rfl
      clear hlt hb
      go_wp2_with fail
      refine (end_any R s q wr HR.out.1).mono ?_
      rintro e w1 ⟨rfl, hn⟩
      have H1 : Hid (RP w w1 R P s q (wrL C o l) t) := HR.out.no HNE.out hn
      rw [HB.out]
      clear hn
      cases b with
      | true =>
        go_wp2
        go_ret
        have h1 := HB.out
        simp at h1
        subst h1
        exact ⟨FrR.yes (HZ.out.trans (by rw [decide_eq_false (by omega)]; rfl)) rfl H1.out.1 H1.out.2.1, H1.out.2.2⟩
      | false =>
        go_wp2
        go_ret
        have h1 := HB.out
        simp at h1
        exact ⟨FrR.no (HZ.out.trans (by rw [decide_eq_true (by have := HD.out.2.1; omega)]; rfl)) rfl H1.out.1, H1.out.2.2⟩
end Go.Proofs.YteldiggaooeeeaaGreatDoor
