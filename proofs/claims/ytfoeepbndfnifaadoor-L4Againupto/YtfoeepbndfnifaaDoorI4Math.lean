/-
  Plain mathematics of a datagram of version 4: its header's fields as bytes, options, what is written, what is read. No program here.
-/
import Derived.Test.YtfoeepbndfnifaaDoorMath
import Derived.Test.YtfoeepbndfnifaaDoorSMath
namespace Go.Proofs.YtfoeepbndfnifaaDoor.I4

/-- the widths of the header's fields -/
def ws4 : List Nat := [4, 4, 8, 16, 16, 1, 1, 1, 13, 8, 8, 16, 32, 32]
/-- the fields, off the bytes -/
def flds (b : Nat → Nat) : List Nat :=
  [b 0 / 16, b 0 % 16, b 1, b 2 * 256 + b 3, b 4 * 256 + b 5, b 6 / 128, b 6 / 64 % 2, b 6 / 32 % 2, b 6 % 32 * 256 + b 7, b 8, b 9, b 10 * 256 + b 11,
    ((b 12 * 256 + b 13) * 256 + b 14) * 256 + b 15, ((b 16 * 256 + b 17) * 256 + b 18) * 256 + b 19]
def bl (b : Nat → Nat) : List Nat := [b 0, b 1, b 2, b 3, b 4, b 5, b 6, b 7, b 8, b 9, b 10, b 11, b 12, b 13, b 14, b 15, b 16, b 17, b 18, b 19]
theorem pack_bl (b : Nat → Nat) : M.packN 0 ws4 (flds b) = M.numB (bl b) := by
  simp only [ws4, flds, bl, M.packN, M.numB, List.foldl_cons, List.foldl_nil]
  omega
theorem fit_flds (b : Nat → Nat) (h : ∀ i, i < 20 → b i < 256) : M.Fit ws4 (flds b) := by
  simp only [ws4, flds, M.Fit]
  have h0 := h 0 (by omega)
  have h1 := h 1 (by omega)
  have h2 := h 2 (by omega)
  have h3 := h 3 (by omega)
  have h4 := h 4 (by omega)
  have h5 := h 5 (by omega)
  have h6 := h 6 (by omega)
  have h7 := h 7 (by omega)
  have h8 := h 8 (by omega)
  have h9 := h 9 (by omega)
  have h10 := h 10 (by omega)
  have h11 := h 11 (by omega)
  have h12 := h 12 (by omega)
  have h13 := h 13 (by omega)
  have h14 := h 14 (by omega)
  have h15 := h 15 (by omega)
  have h16 := h 16 (by omega)
  have h17 := h 17 (by omega)
  have h18 := h 18 (by omega)
  have h19 := h 19 (by omega)
  refine ⟨?_, ?_, ?_, ?_, ?_, ?_, ?_, ?_, ?_, ?_, ?_, ?_, ?_, ?_, trivial⟩ <;> omega
theorem tot4 : M.tot ws4 = 160 := by decide
theorem fields_bl (b : Nat → Nat) (h : ∀ i, i < 20 → b i < 256) : M.fieldsN 160 (M.numB (bl b)) ws4 = flds b := by
  rw [← pack_bl, ← tot4]
  exact M.fieldsN_packN 0 ws4 (flds b) (fit_flds b h)
theorem lt20 {i : Nat} (h : i < 20) : i = 0 ∨ i = 1 ∨ i = 2 ∨ i = 3 ∨ i = 4 ∨ i = 5 ∨ i = 6 ∨ i = 7 ∨ i = 8 ∨ i = 9 ∨ i = 10 ∨ i = 11 ∨ i = 12 ∨ i = 13 ∨ i = 14 ∨ i = 15 ∨ i = 16 ∨ i = 17 ∨ i = 18 ∨ i = 19 := by omega
theorem bl_get (b : Nat → Nat) (i : Nat) (h : i < 20) : (bl b).getD i 0 = b i := by
  rcases lt20 h with rfl | rfl | rfl | rfl | rfl | rfl | rfl | rfl | rfl | rfl | rfl | rfl | rfl | rfl | rfl | rfl | rfl | rfl | rfl | rfl <;> rfl
theorem getD_ext {l m : List Nat} (hl : l.length = m.length) (h : ∀ i, i < l.length → l.getD i 0 = m.getD i 0) : l = m := by
  refine List.ext_getElem hl (fun i h1 h2 => ?_)
  have := h i h1
  simpa [List.getD, h1, h2] using this
theorem getD_take (l : List Nat) (n i : Nat) (h : i < n) : (l.take n).getD i 0 = l.getD i 0 := by simp [List.getD, h]
theorem getD_drop (l : List Nat) (n i : Nat) : (l.drop n).getD i 0 = l.getD (n + i) 0 := by simp [List.getD]
theorem getD_lt (l : List Nat) (h : ∀ x ∈ l, x < 256) (i : Nat) : l.getD i 0 < 256 := by
  by_cases hi : i < l.length
  · simp only [List.getD, List.getElem?_eq_getElem hi, Option.getD_some]; exact h _ (List.getElem_mem hi)
  · simp [List.getD, List.getElem?_eq_none (by omega : l.length ≤ i)]
theorem take20 (l : List Nat) (h : 20 ≤ l.length) : l.take 20 = bl (fun i => l.getD i 0) := by
  refine getD_ext (by simp [bl]; omega) (fun i hi => ?_)
  have hi' : i < 20 := by simp at hi; omega
  rw [bl_get _ _ hi', getD_take _ _ _ hi']
theorem bytes_bl (b : Nat → Nat) (h : ∀ i, i < 20 → b i < 256) : M.bytesN 20 (M.packN 0 ws4 (flds b)) = bl b := by
  rw [pack_bl]
  refine M.bytesN_numB (bl b) (fun x hx => ?_)
  simp only [bl, List.mem_cons, List.not_mem_nil, or_false] at hx
  rcases hx with rfl | rfl | rfl | rfl | rfl | rfl | rfl | rfl | rfl | rfl | rfl | rfl | rfl | rfl | rfl | rfl | rfl | rfl | rfl | rfl <;> exact h _ (by omega)

/-- an option that is read: its kind, where its data stand, how many -/
structure Op4 where
  k : Nat
  p : Nat
  n : Nat
/-- what stands in the bytes from a place on -/
def scan (b : List Nat) (i : Nat) : Option (List Op4) :=
  if h : i < b.length then
    if b.getD i 0 = 0 then some []
    else if b.getD i 0 = 1 then scan b (i + 1)
    else if h2 : i + 1 < b.length ∧ 2 ≤ b.getD (i + 1) 0 ∧ i + b.getD (i + 1) 0 ≤ b.length then
      (scan b (i + b.getD (i + 1) 0)).map (fun l => ⟨b.getD i 0, i + 2, b.getD (i + 1) 0 - 2⟩ :: l)
    else none
  else some []
termination_by b.length - i
decreasing_by all_goals omega
/-- an option's value: its kind, its data -/
abbrev OV := Nat × List Nat
def ov (b : List Nat) (o : Op4) : OV := (o.k, (b.drop o.p).take o.n)
def flatO : List OV → List Nat
  | [] => []
  | o :: l => o.1 :: (o.2.length + 2) :: (o.2 ++ flatO l)
/-- with zeros up to a multiple of four -/
def pad4 (l : List Nat) : List Nat := l ++ List.replicate ((4 - l.length % 4) % 4) 0
theorem pad4_len (l : List Nat) : (pad4 l).length = (l.length + 3) / 4 * 4 := by simp [pad4]; omega
theorem flatO_cons (o : OV) (l : List OV) : (flatO (o :: l)).length = o.2.length + 2 + (flatO l).length := by simp [flatO]; omega
theorem flatO_app (l m : List OV) : flatO (l ++ m) = flatO l ++ flatO m := by
  induction l with
  | nil => rfl
  | cons o l ih => simp [flatO, ih]
/-- what is read lies within the bytes -/
theorem scan_in (b : List Nat) (i : Nat) (l : List Op4) (h : scan b i = some l) (hi : i ≤ b.length) (h256 : ∀ x ∈ b, x < 256) :
    (∀ o ∈ l, 2 ≤ o.k ∧ o.k < 256 ∧ i + 2 ≤ o.p ∧ o.p + o.n ≤ b.length) ∧ i + (flatO (l.map (ov b))).length ≤ b.length := by
  induction i using scan.induct b generalizing l with
  | case1 i h1 h2 =>
    rw [scan, dif_pos h1, if_pos h2] at h
    simp at h; subst h
    exact ⟨by simp, by simpa [flatO] using hi⟩
  | case2 i h1 h2 h3 ih =>
    rw [scan, dif_pos h1, if_neg h2, if_pos h3] at h
    obtain ⟨a, c⟩ := ih l h (by omega)
    exact ⟨fun o ho => by have := a o ho; omega, by omega⟩
  | case3 i h1 h2 h3 h4 ih =>
    rw [scan, dif_pos h1, if_neg h2, if_neg h3, dif_pos h4] at h
    cases hs : scan b (i + b.getD (i + 1) 0) with
    | none => rw [hs] at h; simp at h
    | some m =>
      rw [hs] at h
      simp only [Option.map_some, Option.some.injEq] at h; subst h
      obtain ⟨a, c⟩ := ih m hs h4.2.2
      have hk := getD_lt b h256 i
      refine ⟨?_, ?_⟩
      · intro o ho
        rcases List.mem_cons.1 ho with rfl | ho
        · simp only; omega
        · have := a o ho; omega
      · rw [List.map_cons, flatO_cons]
        simp only [ov, List.length_take, List.length_drop]
        omega
  | case4 i h1 h2 h3 h4 =>
    rw [scan, dif_pos h1, if_neg h2, if_neg h3, dif_neg h4] at h
    simp at h
  | case5 i h1 =>
    rw [scan, dif_neg h1] at h
    simp at h; subst h
    exact ⟨by simp, by simpa [flatO] using hi⟩
theorem getD_app1 (a b : List Nat) (i : Nat) (h : i < a.length) : (a ++ b).getD i 0 = a.getD i 0 := by simp [List.getD, List.getElem?_append_left h]
theorem getD_app2 (a b : List Nat) (i : Nat) : (a ++ b).getD (a.length + i) 0 = b.getD i 0 := by simp [List.getD, List.getElem?_append_right]
/-- what was written is read as it was -/
theorem scan_flat (l : List OV) (pre : List Nat) (z : Nat) (h : ∀ o ∈ l, 2 ≤ o.1 ∧ o.2.length ≤ 253) :
    ∃ m, scan (pre ++ (flatO l ++ List.replicate z 0)) pre.length = some m ∧ m.map (ov (pre ++ (flatO l ++ List.replicate z 0))) = l := by
  induction l generalizing pre with
  | nil =>
    refine ⟨[], ?_, rfl⟩
    rw [scan]
    split
    · rw [show pre.length = pre.length + 0 by rfl, getD_app2]
      rw [if_pos (by simp [flatO, List.getD, List.getElem?_replicate]; split <;> rfl)]
    · rfl
  | cons o l ih =>
    obtain ⟨k, d⟩ := o
    have h1 := h (k, d) (by simp)
    have e : pre ++ (flatO ((k, d) :: l) ++ List.replicate z 0) = (pre ++ (k :: (d.length + 2) :: d)) ++ (flatO l ++ List.replicate z 0) := by simp [flatO]
    obtain ⟨m, hm1, hm2⟩ := ih (pre ++ (k :: (d.length + 2) :: d)) (fun o ho => h o (by simp [ho]))
    rw [← e] at hm1 hm2
    have g0 : (pre ++ (flatO ((k, d) :: l) ++ List.replicate z 0)).getD pre.length 0 = k := by
      rw [show pre.length = pre.length + 0 by rfl, getD_app2]; simp [flatO]
    have g1 : (pre ++ (flatO ((k, d) :: l) ++ List.replicate z 0)).getD (pre.length + 1) 0 = d.length + 2 := by
      rw [getD_app2]; simp [flatO]
    have hl : pre.length + (d.length + 2) ≤ (pre ++ (flatO ((k, d) :: l) ++ List.replicate z 0)).length := by simp [flatO]
    have hd : ((pre ++ (flatO ((k, d) :: l) ++ List.replicate z 0)).drop (pre.length + 2)).take d.length = d := by
      rw [e]
      simp [List.drop_append, List.take_append]
    generalize pre ++ (flatO ((k, d) :: l) ++ List.replicate z 0) = B at *
    refine ⟨⟨k, pre.length + 2, d.length⟩ :: m, ?_, ?_⟩
    · rw [scan, dif_pos (by omega), g0, g1, if_neg (by simp only at h1; omega), if_neg (by simp only at h1; omega), dif_pos ⟨by omega, by omega, hl⟩]
      rw [show (pre ++ (k :: (d.length + 2) :: d)).length = pre.length + (d.length + 2) by simp] at hm1
      rw [hm1]
      simp
    · rw [List.map_cons, hm2]
      simp only [ov]
      rw [hd]
end Go.Proofs.YtfoeepbndfnifaaDoor.I4
