/-
  Package hole, fill: its loop's state in numbers.
-/
import Derived.Test.YtcoaghcmbhogjaaHSpec
namespace Go.Proofs.Ytcoaghcmbhogjaa
namespace H11

structure FE (o e : Nat) (d : List Nat) (gp : List (Nat × Nat)) (bs : List Nat) (k : Nat) (acc : List (Nat × Nat)) (N : Nat) (b : List Nat) : Prop where
  g : acc ++ fG o e (gp.drop k) = fG o e gp
  n : N + fN o e (gp.drop k) = fN o e gp
  bb : fB o e d (gp.drop k) b = fB o e d gp bs
  l : b.length = bs.length

theorem fG_cons (o e x y : Nat) (r : List (Nat × Nat)) : fG o e ((x, y) :: r) = if y ≤ o then (x, y) :: fG o e r else if e ≤ x then (x, y) :: r
    else (if x < max x o then [(x, max x o)] else []) ++ ((if min y e < y then [(min y e, y)] else []) ++ fG o e r) := rfl
theorem fN_cons (o e x y : Nat) (r : List (Nat × Nat)) : fN o e ((x, y) :: r) = if y ≤ o then fN o e r else if e ≤ x then 0 else (min y e - max x o) + fN o e r := rfl
theorem fB_cons (o e x y : Nat) (d : List Nat) (r : List (Nat × Nat)) (b : List Nat) : fB o e d ((x, y) :: r) b = if y ≤ o then fB o e d r b else if e ≤ x then b
    else fB o e d r (spl b (max x o) ((d.drop (max x o - o)).take (min y e - max x o))) := rfl
theorem drop_eq {gp : List (Nat × Nat)} {k x y : Nat} (hk : k < gp.length) (hxy : gp.getD k (0, 0) = (x, y)) : gp.drop k = (x, y) :: gp.drop (k + 1) := by
  rw [List.drop_eq_getElem_cons hk]
  simp only [List.getD, List.getElem?_eq_getElem hk, Option.getD_some] at hxy
  rw [hxy]
theorem FE.start (o e : Nat) (d : List Nat) (gp : List (Nat × Nat)) (bs : List Nat) : FE o e d gp bs 0 [] 0 bs := ⟨rfl, by simp, rfl, rfl⟩
section
variable {o e : Nat} {d : List Nat} {gp : List (Nat × Nat)} {bs : List Nat} {k : Nat} {acc : List (Nat × Nat)} {N : Nat} {b : List Nat} (h : FE o e d gp bs k acc N b)
include h
theorem FE.acc_le {hi : Nat} (hoe : o < e) (hr : Ris 0 gp hi) : acc.length ≤ hi := by
  have h1 := (fG_ris (o := o) (e := e) hoe hr).len
  have h2 := congrArg List.length h.g
  rw [List.length_append] at h2
  omega
theorem FE.n_le {hi : Nat} (hoe : o < e) (hr : Ris 0 gp hi) : N ≤ e := by
  have h1 := fN_le (o := o) (e := e) (Nat.le_of_lt hoe) hr
  have := h.n
  omega
theorem FE.fin (hk : gp.length ≤ k) : acc = fG o e gp ∧ N = fN o e gp ∧ b = fB o e d gp bs := by
  have e1 : gp.drop k = [] := List.drop_of_length_le hk
  have h1 := h.g
  have h2 := h.n
  have h3 := h.bb
  rw [e1] at h1 h2 h3
  simp only [fG, fN, fB, List.append_nil, Nat.add_zero] at h1 h2 h3
  exact ⟨h1, h2, h3⟩
variable {x y : Nat} (hk : k < gp.length) (hxy : gp.getD k (0, 0) = (x, y))
include hk hxy
theorem FE.skip (h1 : y ≤ o) : FE o e d gp bs (k + 1) (acc ++ [(x, y)]) N b := by
  have hd := drop_eq hk hxy
  have a1 := h.g
  have a2 := h.n
  have a3 := h.bb
  rw [hd, fG_cons] at a1
  rw [hd, fN_cons] at a2
  rw [hd, fB_cons] at a3
  rw [if_pos h1] at a1 a2 a3
  exact ⟨by rw [List.append_assoc]; exact a1, a2, a3, h.l⟩
theorem FE.stop (h1 : ¬ y ≤ o) (h2 : e ≤ x) : acc ++ gp.drop k = fG o e gp ∧ N = fN o e gp ∧ b = fB o e d gp bs := by
  have hd := drop_eq hk hxy
  have a1 := h.g
  have a2 := h.n
  have a3 := h.bb
  rw [hd, fG_cons] at a1
  rw [hd, fN_cons] at a2
  rw [hd, fB_cons] at a3
  rw [if_neg h1, if_pos h2] at a1 a2 a3
  rw [hd]
  exact ⟨a1, a2, a3⟩
theorem FE.cut (h1 : ¬ y ≤ o) (h2 : ¬ e ≤ x) (hd : e = o + d.length) (hb : e ≤ bs.length) {F T : Nat} (hF : F = max x o) (hT : T = min y e) :
    FE o e d gp bs (k + 1) (acc ++ (if x < F then [(x, F)] else []) ++ (if T < y then [(T, y)] else [])) (N + (T - F)) (spl b F ((d.drop (F - o)).take (T - F))) := by
  subst hF hT
  have hd' := drop_eq hk hxy
  have a1 := h.g
  have a2 := h.n
  have a3 := h.bb
  rw [hd', fG_cons] at a1
  rw [hd', fN_cons] at a2
  rw [hd', fB_cons] at a3
  rw [if_neg h1, if_neg h2] at a1 a2 a3
  refine ⟨by rw [← a1]; simp only [List.append_assoc], by rw [← a2]; omega, a3, ?_⟩
  rw [spl_len, h.l]
  have := seg_len d o (max x o) (min y e) (by omega) (by omega)
  rw [this, h.l]
  by_cases c : max x o ≤ min y e <;> omega
end
end H11
end Go.Proofs.Ytcoaghcmbhogjaa
