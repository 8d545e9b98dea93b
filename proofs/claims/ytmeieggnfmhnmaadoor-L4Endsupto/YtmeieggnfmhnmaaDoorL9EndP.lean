/-
  One bit of an address turned over: the pseudo-header's list with one byte another; the sums guard the addresses (in numbers).
-/
import Derived.Test.YtmeieggnfmhnmaaDoorL9BitP
namespace Go.Proofs.YtmeieggnfmhnmaaDoor
open Go.RowKit
open L4 (U9 T9)

theorem getD_app_l (l m : List Nat) (i d : Nat) (h : i < l.length) : (l ++ m).getD i d = l.getD i d := by
  simp only [List.getD, List.getElem?_append_left h]
theorem getD_app_r (l m : List Nat) (i d : Nat) (h : l.length ≤ i) : (l ++ m).getD i d = m.getD (i - l.length) d := by
  simp only [List.getD, List.getElem?_append_right h]
def upd (x : Nat → Nat) (j y : Nat) : Nat → Nat := fun i => if i = j then y else x i
theorem upd_256 {x : Nat → Nat} {j y : Nat} (h : ∀ i, i < 16 → x i < 256) (hy : y < 256) : ∀ i, i < 16 → upd x j y i < 256 := by
  intro i hi
  unfold upd
  split
  · exact hy
  · exact h i hi
theorem ip_set (V : Int) (x : Nat → Nat) (j y : Nat) (hj : j < 16) : (ipCells V x).setIfInBounds (1 + j) (.int .u8 (y : Nat)) = ipCells V (upd x j y) := by
  have h : j = 0 ∨ j = 1 ∨ j = 2 ∨ j = 3 ∨ j = 4 ∨ j = 5 ∨ j = 6 ∨ j = 7 ∨ j = 8 ∨ j = 9 ∨ j = 10 ∨ j = 11 ∨ j = 12 ∨ j = 13 ∨ j = 14 ∨ j = 15 := by omega
  rcases h with rfl | rfl | rfl | rfl | rfl | rfl | rfl | rfl | rfl | rfl | rfl | rfl | rfl | rfl | rfl | rfl <;> rfl
theorem ipRow_set {w : World} {O : Nat} {V : Int} {x : Nat → Nat} (h : IpRow w O (ipCells V x)) (j y : Nat) (hj : j < 16) : IpRow (w.setCell ⟨O, 1 + j, none⟩ (.int .u8 (y : Nat))) O (ipCells V (upd x j y)) := by
  have h1 := heap_setCell_same w O (1 + j) _ _ (.int .u8 (y : Nat)) h
  rw [ip_set V x j y hj] at h1
  exact h1
theorem ipL_upd (x : Nat → Nat) (n j y : Nat) : ipL (upd x j y) n = (ipL x n).set j y := by
  apply List.ext_getElem?
  intro i
  unfold ipL
  rw [List.getElem?_set]
  simp only [List.getElem?_map, List.length_map, List.length_range]
  by_cases hi : i < n
  · rw [List.getElem?_range hi]
    by_cases h : j = i
    · subst h
      simp [upd, hi]
    · rw [if_neg h]
      simp [upd, Ne.symm h]
  · have e : (List.range n)[i]? = none := by simp; omega
    rw [e]
    by_cases h : j = i
    · subst h
      simp [hi]
    · rw [if_neg h]
      simp
theorem ipL_at (x : Nat → Nat) (n j : Nat) (h : j < n) : (ipL x n).getD j 0 = x j := by simp [ipL, List.getD, h]
theorem restZ_upd (x : Nat → Nat) (j y : Nat) (hj : j < 4) : restZ (upd x j y) = restZ x := by
  have h : j = 0 ∨ j = 1 ∨ j = 2 ∨ j = 3 := by omega
  rcases h with rfl | rfl | rfl | rfl <;> rfl
theorem isAddr_upd {V : Int} {x : Nat → Nat} {j y : Nat} (h : isAddr V x = true) (hj : V = 4 → j < 4) : isAddr V (upd x j y) = true := by
  unfold isAddr at h ⊢
  by_cases h4 : V = 4
  · rw [if_pos h4] at h ⊢
    rw [restZ_upd x j y (hj h4)]
    exact h
  · rw [if_neg h4] at h ⊢
    exact h
theorem psOk_src {V U : Int} {x y : Nat → Nat} {j z : Nat} (h : psOk V U x y = true) (hj : V = 4 → j < 4) : psOk V U (upd x j z) y = true := by
  simp only [psOk, Bool.and_eq_true, decide_eq_true_eq] at h ⊢
  exact ⟨⟨isAddr_upd h.1.1 hj, h.1.2⟩, h.2⟩
theorem psOk_dst {V U : Int} {x y : Nat → Nat} {j z : Nat} (h : psOk V U x y = true) (hj : V = 4 → j < 4) : psOk V U x (upd y j z) = true := by
  simp only [psOk, Bool.and_eq_true, decide_eq_true_eq] at h ⊢
  exact ⟨⟨h.1.1, isAddr_upd h.1.2 (fun e => hj (by rw [h.2]; exact e))⟩, h.2⟩
/-- as many bytes as an address of the version has -/
def nB (V : Int) : Nat := if V = 6 then 16 else 4
theorem ps_src {V U : Int} {x y : Nat → Nat} {j z : Nat} {p n : Int} (h : psOk V U x y = true) (hi : psIn p n = true) (hj : j < nB V) :
    psL V U (upd x j z) y p n = (psL V U x y p n).set j z ∧ (psL V U x y p n).getD j 0 = x j ∧ j < (psL V U x y p n).length := by
  have hv := psOk_ver h
  have h' := psOk_src (z := z) (j := j) h (fun e => by rw [e] at hj; exact hj)
  unfold psL
  rw [h, h', hi]
  simp only [Bool.and_self, if_true]
  rcases hv.1 with h4 | h6
  · have hj4 : j < 4 := by rw [h4] at hj; exact hj
    simp only [if_pos h4, List.append_assoc]
    rw [ipL_upd, List.set_append_left _ _ (by rw [ipL_len]; exact hj4)]
    refine ⟨rfl, ?_, by simp [ipL_len]; omega⟩
    rw [getD_app_l _ _ _ _ (by rw [ipL_len]; exact hj4)]
    exact ipL_at x 4 j hj4
  · have hj6 : j < 16 := by rw [h6] at hj; exact hj
    have h4 : ¬ V = 4 := by omega
    simp only [if_neg h4, List.append_assoc]
    rw [ipL_upd, List.set_append_left _ _ (by rw [ipL_len]; exact hj6)]
    refine ⟨rfl, ?_, by simp [ipL_len]; omega⟩
    rw [getD_app_l _ _ _ _ (by rw [ipL_len]; exact hj6)]
    exact ipL_at x 16 j hj6
theorem ps_dst {V U : Int} {x y : Nat → Nat} {j z : Nat} {p n : Int} (h : psOk V U x y = true) (hi : psIn p n = true) (hj : j < nB V) :
    psL V U x (upd y j z) p n = (psL V U x y p n).set (nB V + j) z ∧ (psL V U x y p n).getD (nB V + j) 0 = y j ∧ nB V + j < (psL V U x y p n).length := by
  have hv := psOk_ver h
  have h' := psOk_dst (z := z) (j := j) h (fun e => by rw [e] at hj; exact hj)
  unfold psL
  rw [h, h', hi]
  simp only [Bool.and_self, if_true]
  rcases hv.1 with h4 | h6
  · have e4 : nB V = 4 := by rw [h4]; rfl
    rw [e4] at hj ⊢
    have l4 : (ipL x 4).length ≤ 4 + j := by rw [ipL_len]; omega
    have e : 4 + j - (ipL x 4).length = j := by rw [ipL_len]; omega
    simp only [if_pos h4, List.append_assoc]
    rw [ipL_upd, List.set_append_right _ _ l4, e, List.set_append_left _ _ (by rw [ipL_len]; exact hj)]
    refine ⟨rfl, ?_, by simp [ipL_len]; omega⟩
    rw [getD_app_r _ _ _ _ l4, e, getD_app_l _ _ _ _ (by rw [ipL_len]; exact hj)]
    exact ipL_at y 4 j hj
  · have e6 : nB V = 16 := by rw [h6]; rfl
    rw [e6] at hj ⊢
    have h4 : ¬ V = 4 := by omega
    have l4 : (ipL x 16).length ≤ 16 + j := by rw [ipL_len]; omega
    have e : 16 + j - (ipL x 16).length = j := by rw [ipL_len]; omega
    simp only [if_neg h4, List.append_assoc]
    rw [ipL_upd, List.set_append_right _ _ l4, e, List.set_append_left _ _ (by rw [ipL_len]; exact hj)]
    refine ⟨rfl, ?_, by simp [ipL_len]; omega⟩
    rw [getD_app_r _ _ _ _ l4, e, getD_app_l _ _ _ _ (by rw [ipL_len]; exact hj)]
    exact ipL_at y 16 j hj
/-- two addresses, one bit of one of them turned over: bit 8 * j + r of the first and then the second -/
def Tu (V : Int) (x y x' y' : Nat → Nat) (j r : Nat) : Prop :=
  (j < nB V ∧ x' = upd x j (x j ^^^ 2 ^ (7 - r)) ∧ y' = y) ∨ (∃ i, j = nB V + i ∧ i < nB V ∧ x' = x ∧ y' = upd y i (y i ^^^ 2 ^ (7 - r)))
theorem nB_le (V : Int) : nB V ≤ 16 := by unfold nB; split <;> omega
theorem Tu.lt {V : Int} {x y x' y' : Nat → Nat} {j r : Nat} (h : Tu V x y x' y' j r) (hx : ∀ i, i < 16 → x i < 256) (hy : ∀ i, i < 16 → y i < 256) (hr : r < 8) : (∀ i, i < 16 → x' i < 256) ∧ (∀ i, i < 16 → y' i < 256) := by
  have hn := nB_le V
  rcases h with ⟨hj, rfl, rfl⟩ | ⟨i, rfl, hj, rfl, rfl⟩
  · exact ⟨upd_256 hx (xor_bit _ (hx j (by omega)) (7 - r) (by omega)).2.1, hy⟩
  · exact ⟨hx, upd_256 hy (xor_bit _ (hy i (by omega)) (7 - r) (by omega)).2.1⟩
theorem Tu.ok {V U : Int} {x y x' y' : Nat → Nat} {j r : Nat} (h : Tu V x y x' y' j r) (hp : psOk V U x y = true) : psOk V U x' y' = true := by
  rcases h with ⟨hj, rfl, rfl⟩ | ⟨i, rfl, hj, rfl, rfl⟩
  · exact psOk_src hp (fun e => by rw [e] at hj; exact hj)
  · exact psOk_dst hp (fun e => by rw [e] at hj; exact hj)
theorem Tu.bad {V U : Int} {x y x' y' : Nat → Nat} {j r : Nat} {p n : Int} {b : List Nat} (h : Tu V x y x' y' j r) (hx : ∀ i, i < 16 → x i < 256) (hy : ∀ i, i < 16 → y i < 256) (hr : r < 8) (hp : psOk V U x y = true) (hi : psIn p n = true)
    (hg : S.fold (S.wv false (psL V U x y p n ++ b)) = 65535) : S.fold (S.wv false (psL V U x' y' p n ++ b)) ≠ 65535 := by
  have hn := nB_le V
  have key : ∀ k z, k < (psL V U x y p n).length → (psL V U x y p n).getD k 0 = z → z < 256 → S.fold (S.wv false ((psL V U x y p n).set k (z ^^^ 2 ^ (7 - r)) ++ b)) ≠ 65535 := by
    intro k z hk hz hz2
    rw [← List.set_append_left _ _ hk]
    have hl : k < (psL V U x y p n ++ b).length := by rw [List.length_append]; omega
    refine flip_bad _ k z (7 - r) hl ?_ hz2 (by omega) hg
    rw [List.getElem_append_left hk, ← hz]
    simp [List.getD, hk]
  rcases h with ⟨hj, rfl, rfl⟩ | ⟨i, rfl, hj, rfl, rfl⟩
  · obtain ⟨e1, e2, e3⟩ := ps_src (z := x j ^^^ 2 ^ (7 - r)) hp hi hj
    rw [e1]
    exact key j (x j) e3 e2 (hx j (by omega))
  · obtain ⟨e1, e2, e3⟩ := ps_dst (z := y i ^^^ 2 ^ (7 - r)) hp hi hj
    rw [e1]
    exact key (nB V + i) (y i) e3 e2 (hy i (by omega))
theorem uEnd {v : Int} (u : U9) (p p' : List Nat) (h : L4.uChk v u = 0) (hns : u.ns = false) (hb : S.fold (S.wv false (p' ++ L4.uSer u p)) ≠ 65535) : L4.uPE v true p' (L4.uSer u p) = 93 := by
  obtain ⟨_, h2, h3, h4, h5⟩ := L4.uChk_zero h
  unfold L4.uPE
  rw [L4.uN_ser, L4.uS_ser, L4.uSer_len, if_neg (by omega), if_pos rfl, if_neg (by omega), if_neg (by omega), if_pos]
  refine .inr ⟨fun e => ?_, ?_⟩
  · have := (L4.uSum_zero u p).1 e
    rw [hns] at this
    cases this
  · rw [List.take_of_length_le (by rw [L4.uSer_len]; exact Nat.le_refl _)]
    exact hb
theorem tEnd (t : T9) (p p' : List Nat) (h : L4.tChk t = 0) (hb : S.fold (S.wv false (p' ++ L4.tSer t p)) ≠ 65535) : L4.tPE true p' (L4.tSer t p) = 96 := by
  obtain ⟨hf, ho, hl⟩ := L4.tChk_zero h
  have := L4.tHs_b t
  unfold L4.tPE
  rw [L4.tH_ser, L4.tSer_len, if_neg (by omega), if_pos rfl, if_neg (by omega), if_neg (by unfold L4.tHs; omega), if_pos hb]
end Go.Proofs.YtmeieggnfmhnmaaDoor
