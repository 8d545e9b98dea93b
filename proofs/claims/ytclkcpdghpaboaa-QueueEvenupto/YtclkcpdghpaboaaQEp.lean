/-
  Layer 18 in numbers, for QueueEven: of two classes that wait and are not held up neither is served too far ahead, over any stretch.
-/
import Derived.Test.YtclkcpdghpaboaaQFp
namespace Go.Proofs.Ytclkcpdghpaboaa

/-- no deficit is above a greatest item and a quantum -/
def H2 (cs : List CL) (t : TN) : Prop := ∀ i, i < cs.length → t.de i ≤ 65535 + (cAt cs i).li.q
/-- one class in a stretch: what it was served and its deficit are a number c at the start and a quantum a round -/
def Ci (q : Int) (i : Nat) (A r c : Int) (t : TN) : Prop := A + t.de i = c + (r + fg t i) * q
/-- two classes in a stretch -/
def Pi2 (qi qj : Int) (i j : Nat) (A B : Int) (t : TN) : Prop := ∃ r ci cj : Int, (-qi ≤ ci ∧ ci ≤ 65535) ∧ (-qj ≤ cj ∧ cj ≤ 65535) ∧ Ci qi i A r ci t ∧ Ci qj j B r cj t
section
variable {cs : List CL} {t : TN}
theorem H2.gr (h : H2 cs t) (hq : QOk cs t) : H2 cs (gr cs t) := by
  unfold Go.Proofs.Ytclkcpdghpaboaa.gr
  split
  · rename_i hc
    simp only [Bool.and_eq_true, Bool.not_eq_true'] at hc
    have h8 : t.at' < 8 := by have h1 := hq.len.2; have h2 := hq.tn.at'; omega
    have hde : t.de t.at' ≤ 65535 := (hq.tn.hi t.at' h8).resolve_left (fun e => by rw [hc.2] at e; cases e.2)
    intro i hi
    show up t.de t.at' _ i ≤ _
    by_cases e : i = t.at'
    · subst e; rw [up_same]; omega
    · rw [up_ne e]; exact h i hi
  · exact h
theorem H2.nxt (h : H2 cs t) (hq : QOk cs t) : H2 cs (nxt cs t) := by
  have h1 := h.gr hq
  intro i hi
  show (lvT cs (Go.Proofs.Ytclkcpdghpaboaa.gr cs t)).de i ≤ _
  unfold lvT
  split
  · show up _ _ _ i ≤ _
    by_cases e : i = (Go.Proofs.Ytclkcpdghpaboaa.gr cs t).at'
    · subst e
      rw [up_same]
      have := h1 _ hi
      omega
    · rw [up_ne e]; exact h1 i hi
  · exact h1 i hi
theorem H2.run {u : TN} (hr : Run cs t u) : QOk cs t → H2 cs t → H2 cs u := by
  induction hr with
  | stop t _ => intro hq h; exact h.gr hq
  | step t u hs _ ih => intro hq h; exact ih (hq.nxt hs) (h.nxt hq)
theorem H2.pop {u : TN} (h : H2 cs u) (hq : QOk cs u) (hu : u.at' < cs.length) : H2 (popCs cs u) (popD cs u) := by
  have hcl := hq.c hu
  intro i hi
  unfold popCs at hi ⊢
  rw [List.length_set] at hi
  show up u.de u.at' _ i ≤ _
  by_cases e : i = u.at'
  · subst e
    rw [up_same, cAt_set_same hu]
    show _ ≤ 65535 + (cAt cs u.at').li.q
    have h1 := h _ hu
    have h2 := hcl.hd.1
    have h3 := hcl.li.q.1
    split <;> omega
  · rw [up_ne e, cAt_set_ne e]
    exact h i hi
theorem H2.li {cs' : List CL} (h : H2 cs t) (hl : cs'.length = cs.length) (he : ∀ i, (cAt cs' i).li = (cAt cs i).li) : H2 cs' t := fun i hi => by rw [he]; exact h i (by omega)
variable {q A r c : Int} {i : Nat}
theorem Ci.gr (h : Ci q i A r c t) (hr : (cAt cs i).rdy = true) (hqi : (cAt cs i).li.q = q) : Ci q i A r c (gr cs t) ∧ (i = t.at' → (Go.Proofs.Ytclkcpdghpaboaa.gr cs t).gv = true) := by
  unfold Go.Proofs.Ytclkcpdghpaboaa.gr
  split
  · rename_i hc
    simp only [Bool.and_eq_true, Bool.not_eq_true'] at hc
    refine ⟨?_, fun _ => rfl⟩
    show A + up t.de t.at' _ i = c + (r + fg _ i) * q
    by_cases e : i = t.at'
    · subst e
      rw [up_same]
      have f0 : fg t t.at' = 0 := by unfold fg; rw [if_neg (by rw [hc.2]; simp)]
      have f1 : fg ⟨t.at', true, up t.de t.at' (t.de t.at' + (cAt cs t.at').li.q)⟩ t.at' = 1 := by unfold fg; rw [if_pos (.inr ⟨rfl, rfl⟩)]
      unfold Ci at h
      rw [f0] at h
      rw [f1, hqi]
      have h2 : (r + 1) * q = (r + 0) * q + q := by rw [show r + 1 = (r + 0) + 1 by omega, Int.add_mul, Int.one_mul]
      omega
    · rw [up_ne e]
      have f1 : fg ⟨t.at', true, up t.de t.at' (t.de t.at' + (cAt cs t.at').li.q)⟩ i = fg t i := by
        unfold fg
        by_cases e2 : i < t.at'
        · rw [if_pos (.inl e2), if_pos (.inl e2)]
        · rw [if_neg (fun x => x.elim e2 (fun y => e y.1)), if_neg (fun x => x.elim e2 (fun y => e y.1))]
      rw [f1]
      exact h
  · rename_i hc
    refine ⟨h, fun e => ?_⟩
    subst e
    rw [hr] at hc
    simpa using hc
/-- the round goes on: one more where the pointer begins anew -/
def rn (cs : List CL) (t : TN) (r : Int) : Int := if t.at' + 1 = cs.length then r + 1 else r
theorem Ci.nxt (h : Ci q i A r c t) (hq : QOk cs t) (hi : i < cs.length) (hr : (cAt cs i).rdy = true) (hqi : (cAt cs i).li.q = q) : Ci q i A (rn cs t r) c (nxt cs t) := by
  obtain ⟨h1, h2⟩ := h.gr (cs := cs) hr hqi
  have hat := gr_at cs t
  have hn := hq.tn.at'
  have hlv : (lvT cs (Go.Proofs.Ytclkcpdghpaboaa.gr cs t)).de i = (Go.Proofs.Ytclkcpdghpaboaa.gr cs t).de i := by
    unfold lvT
    split
    · rename_i hh
      show up _ _ _ i = _
      rw [up_ne (fun e => by rw [← e, rdy_held hr] at hh; cases hh)]
    · rfl
  have hf : i ≤ t.at' → fg (Go.Proofs.Ytclkcpdghpaboaa.gr cs t) i = 1 := fun hl => by
    unfold fg
    rw [hat]
    by_cases e : i = t.at'
    · rw [if_pos (.inr ⟨e, h2 e⟩)]
    · rw [if_pos (.inl (by omega))]
  have hg : t.at' < i → fg (Go.Proofs.Ytclkcpdghpaboaa.gr cs t) i = 0 := fun hl => by
    unfold fg
    rw [hat, if_neg (by omega)]
  unfold Ci at h1 ⊢
  show A + (lvT cs (Go.Proofs.Ytclkcpdghpaboaa.gr cs t)).de i = c + (rn cs t r + fg ⟨(t.at' + 1) % cs.length, false, (lvT cs (Go.Proofs.Ytclkcpdghpaboaa.gr cs t)).de⟩ i) * q
  rw [hlv, h1]
  unfold rn
  by_cases e : t.at' + 1 = cs.length
  · rw [if_pos e]
    have f0 : fg ⟨(t.at' + 1) % cs.length, false, (lvT cs (Go.Proofs.Ytclkcpdghpaboaa.gr cs t)).de⟩ i = 0 := by
      unfold fg
      rw [if_neg]
      rintro (x | x)
      · have x' : i < (t.at' + 1) % cs.length := x
        rw [e, Nat.mod_self] at x'
        omega
      · cases x.2
    rw [f0, hf (by omega), Int.add_zero]
  · rw [if_neg e]
    have f0 : fg ⟨(t.at' + 1) % cs.length, false, (lvT cs (Go.Proofs.Ytclkcpdghpaboaa.gr cs t)).de⟩ i = fg (Go.Proofs.Ytclkcpdghpaboaa.gr cs t) i := by
      by_cases e2 : i ≤ t.at'
      · rw [hf e2]
        unfold fg
        rw [if_pos (.inl (by show i < (t.at' + 1) % cs.length; rw [Nat.mod_eq_of_lt (by omega)]; omega))]
      · rw [hg (by omega)]
        unfold fg
        rw [if_neg]
        rintro (x | x)
        · have x' : i < (t.at' + 1) % cs.length := x
          rw [Nat.mod_eq_of_lt (by omega)] at x'
          omega
        · cases x.2
    rw [f0]
variable {qi qj B : Int} {j : Nat}
/-- a stretch that begins -/
theorem Pi2.zero (hq : QOk cs t) (h : H2 cs t) (hi : i < cs.length) (hj : j < cs.length) (hqi : (cAt cs i).li.q = qi) (hqj : (cAt cs j).li.q = qj) : Pi2 qi qj i j 0 0 t := by
  have key : ∀ (k : Nat) (q : Int), k < cs.length → (cAt cs k).li.q = q → (-q ≤ t.de k - fg t k * q ∧ t.de k - fg t k * q ≤ 65535) := by
    intro k q hk e
    have h8 : k < 8 := by have := hq.len.2; omega
    have h1 := hq.tn.lo k h8
    have h2 := h k hk
    rw [e] at h2
    have h3 := (hq.c hk).li.q.1
    rw [e] at h3
    unfold fg
    split
    · rename_i hf
      rw [Int.one_mul]
      omega
    · rename_i hf
      rw [Int.zero_mul]
      have h4 := (hq.tn.hi k h8).resolve_left (fun x => hf (.inr x))
      omega
  refine ⟨0, t.de i - fg t i * qi, t.de j - fg t j * qj, key i qi hi hqi, key j qj hj hqj, ?_, ?_⟩
  · unfold Ci
    rw [Int.zero_add (fg t i)]
    omega
  · unfold Ci
    rw [Int.zero_add (fg t j)]
    omega
theorem Pi2.run {u : TN} (hr : Run cs t u) (hi : i < cs.length) (hj : j < cs.length) (hri : (cAt cs i).rdy = true) (hrj : (cAt cs j).rdy = true) (hqi : (cAt cs i).li.q = qi) (hqj : (cAt cs j).li.q = qj) : QOk cs t → Pi2 qi qj i j A B t → Pi2 qi qj i j A B u := by
  induction hr with
  | stop t _ =>
    rintro hq ⟨r, ci, cj, b1, b2, c1, c2⟩
    exact ⟨r, ci, cj, b1, b2, (c1.gr (cs := cs) hri hqi).1, (c2.gr (cs := cs) hrj hqj).1⟩
  | step t u hs _ ih =>
    rintro hq ⟨r, ci, cj, b1, b2, c1, c2⟩
    exact ih (hq.nxt hs) ⟨_, ci, cj, b1, b2, c1.nxt hq hi hri hqi, c2.nxt hq hj hrj hqj⟩
theorem Ci.pop {u : TN} (h : Ci q i A r c u) (ht : i = u.at' → wtB (cAt cs u.at').L.tail = true) : Ci q i (if i = u.at' then A + hdS (cAt cs u.at').L else A) r c (popD cs u) := by
  unfold Ci at h ⊢
  show _ + up u.de u.at' _ i = c + (r + fg u i) * q
  by_cases e : i = u.at'
  · rw [if_pos e, if_pos (ht e)]
    subst e
    rw [up_same]
    omega
  · rw [if_neg e, up_ne e]
    exact h
theorem Pi2.pop {u : TN} (h : Pi2 qi qj i j A B u) (hti : i = u.at' → wtB (cAt cs u.at').L.tail = true) (htj : j = u.at' → wtB (cAt cs u.at').L.tail = true) : Pi2 qi qj i j (if i = u.at' then A + hdS (cAt cs u.at').L else A) (if j = u.at' then B + hdS (cAt cs u.at').L else B) (popD cs u) := by
  obtain ⟨r, ci, cj, b1, b2, c1, c2⟩ := h
  exact ⟨r, ci, cj, b1, b2, c1.pop hti, c2.pop htj⟩
/-- neither is ahead by more than two rounds and a greatest item -/
theorem Pi2.even (h : Pi2 qi qj i j A B t) (hq : QOk cs t) (h2 : H2 cs t) (hi : i < cs.length) (hj : j < cs.length) (hqj : (cAt cs j).li.q = qj) (hi0 : 0 ≤ qi) (hj0 : 0 ≤ qj) : A * qj - B * qi ≤ 2 * (qi * qj) + 65535 * (qi + qj) := by
  obtain ⟨r, ci, cj, b1, b2, e1, e2⟩ := h
  unfold Ci at e1 e2
  have h8i : i < 8 := by have := hq.len.2; omega
  have h8j : j < 8 := by have := hq.len.2; omega
  have di0 := hq.tn.lo i h8i
  have dj2 := h2 j hj
  rw [hqj] at dj2
  obtain ⟨a, ha⟩ : ∃ a, a = fg t i := ⟨_, rfl⟩
  obtain ⟨b, hb⟩ : ∃ b, b = fg t j := ⟨_, rfl⟩
  have ha1 : 0 ≤ a ∧ a ≤ 1 := by rw [ha]; unfold fg; split <;> omega
  have hb1 : 0 ≤ b ∧ b ≤ 1 := by rw [hb]; unfold fg; split <;> omega
  -- the deficit of j, less a quantum where it stands at the pointer
  have hdj : t.de j ≤ 65535 + b * qj := by
    by_cases hf : j = t.at' ∧ t.gv = true
    · have : b = 1 := by rw [hb]; unfold fg; rw [if_pos (.inr hf)]
      rw [this, Int.one_mul]; exact dj2
    · have h4 := (hq.tn.hi j h8j).resolve_left hf
      have h5 : 0 ≤ b * qj := Int.mul_nonneg hb1.1 hj0
      omega
  rw [← ha] at e1
  rw [← hb] at e2
  have s1 : A = ci + (r + a) * qi - t.de i := by omega
  have s2 : B = cj + (r + b) * qj - t.de j := by omega
  have hX : 0 ≤ qi * qj := Int.mul_nonneg hi0 hj0
  have p1 : A * qj = ci * qj + (r + a) * (qi * qj) - t.de i * qj := by rw [s1, Int.sub_mul, Int.add_mul, Int.mul_assoc]
  have p2 : B * qi = cj * qi + (r + b) * (qi * qj) - t.de j * qi := by rw [s2, Int.sub_mul, Int.add_mul, Int.mul_assoc (r + b), Int.mul_comm qj qi]
  have p3 : (r + a) * (qi * qj) - (r + b) * (qi * qj) = (a - b) * (qi * qj) := by rw [← Int.sub_mul]; congr 1; omega
  have p4 : (a - b) * (qi * qj) = a * (qi * qj) - b * (qi * qj) := Int.sub_mul ..
  have p5 : a * (qi * qj) ≤ 1 * (qi * qj) := Int.mul_le_mul_of_nonneg_right ha1.2 hX
  have p6 : 0 ≤ t.de i * qj := Int.mul_nonneg di0 hj0
  have p7 : t.de j * qi ≤ (65535 + b * qj) * qi := Int.mul_le_mul_of_nonneg_right hdj hi0
  have p8 : (65535 + b * qj) * qi = 65535 * qi + b * (qi * qj) := by rw [Int.add_mul, Int.mul_assoc, Int.mul_comm qj qi]
  have p9 : ci * qj ≤ 65535 * qj := Int.mul_le_mul_of_nonneg_right b1.2 hj0
  have p10 : (-qj) * qi ≤ cj * qi := Int.mul_le_mul_of_nonneg_right b2.1 hi0
  have p11 : (-qj) * qi = -(qi * qj) := by rw [Int.neg_mul, Int.mul_comm]
  have p12 : 65535 * (qi + qj) = 65535 * qi + 65535 * qj := Int.mul_add ..
  omega
end
end Go.Proofs.Ytclkcpdghpaboaa
