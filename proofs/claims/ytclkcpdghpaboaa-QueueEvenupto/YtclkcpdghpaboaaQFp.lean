/-
  Layer 18 in numbers: classes that are kept waiting are served by their quanta: the law of the deficits.
-/
import Derived.Test.YtclkcpdghpaboaaQF9
namespace Go.Proofs.Ytclkcpdghpaboaa

/-- 1 for a class that had its quantum of this round -/
def fg (t : TN) (i : Nat) : Int := if i < t.at' ∨ (i = t.at' ∧ t.gv = true) then 1 else 0
/-- class 0 lost its first quantum -/
def og (i : Nat) : Int := if i = 0 then 1 else 0
/-- the classes A wait and are not shaped, with quanta q; nothing waits in the others -/
structure Kw (A : Nat → Prop) (q : Nat → Int) (cs : List CL) : Prop where
  lt : ∀ i, A i → i < cs.length
  q : ∀ i, A i → (cAt cs i).li.q = q i
  ra : ∀ i, A i → (cAt cs i).li.ra = 0
  ne : ∀ i, A i → (cAt cs i).L ≠ []
  em : ∀ i, ¬ A i → (cAt cs i).L = []
/-- what was served and what is left of the quanta -/
structure Fr (A : Nat → Prop) (q : Nat → Int) (s : Nat → Int) (r : Int) (t : TN) : Prop where
  eq : ∀ i, A i → s i + t.de i = (r + fg t i - og i) * q i
  hi : ∀ i, A i → t.de i ≤ 65535 + q i
section
variable {A : Nat → Prop} {q : Nat → Int} {cs : List CL} {s : Nat → Int} {r : Int} {t : TN}
theorem Kw.held (h : Kw A q cs) (i : Nat) : (cAt cs i).held = false := by
  unfold CL.held
  by_cases hA : A i
  · rw [h.ra i hA]; rfl
  · rw [h.em i hA]; simp [wtB]
theorem Kw.rdy (h : Kw A q cs) {i : Nat} (hA : A i) : (cAt cs i).rdy = true := by
  unfold CL.rdy
  rw [h.held i]
  have := h.ne i hA
  cases hL : (cAt cs i).L with
  | nil => exact absurd hL this
  | cons x L => simp [wtB]
theorem Kw.not (h : Kw A q cs) {i : Nat} (hA : ¬ A i) : (cAt cs i).rdy = false := by
  unfold CL.rdy
  rw [h.em i hA]
  simp [wtB]
theorem Kw.of (h : Kw A q cs) {i : Nat} (hr : (cAt cs i).rdy = true) : A i := Classical.byContradiction fun hA => by rw [h.not hA] at hr; cases hr
/-- the class at the pointer is given its quantum -/
theorem Fr.gr (hk : Kw A q cs) (hq : QOk cs t) (h : Fr A q s r t) : Fr A q s r (gr cs t) ∧ (A t.at' → (Go.Proofs.Ytclkcpdghpaboaa.gr cs t).gv = true) := by
  unfold Go.Proofs.Ytclkcpdghpaboaa.gr
  split
  · rename_i hc
    simp only [Bool.and_eq_true, Bool.not_eq_true'] at hc
    have hA := hk.of hc.1
    have h8 : t.at' < 8 := by have h1 := hq.len.2; have h2 := hq.tn.at'; omega
    have hde : t.de t.at' ≤ 65535 := (hq.tn.hi t.at' h8).resolve_left (fun e => by rw [hc.2] at e; cases e.2)
    refine ⟨⟨fun i hi => ?_, fun i hi => ?_⟩, fun _ => rfl⟩
    · show s i + up t.de t.at' _ i = _
      by_cases e : i = t.at'
      · subst e
        rw [up_same]
        have h1 := h.eq _ hi
        have f0 : fg t t.at' = 0 := by unfold fg; rw [if_neg (by rw [hc.2]; simp)]
        have f1 : fg ⟨t.at', true, up t.de t.at' (t.de t.at' + (cAt cs t.at').li.q)⟩ t.at' = 1 := by unfold fg; rw [if_pos (.inr ⟨rfl, rfl⟩)]
        rw [f0] at h1
        rw [f1, hk.q _ hi]
        have h2 : (r + 1 - og t.at') * q t.at' = (r + 0 - og t.at') * q t.at' + q t.at' := by
          rw [show r + 1 - og t.at' = (r + 0 - og t.at') + 1 by omega, Int.add_mul, Int.one_mul]
        omega
      · rw [up_ne e]
        have f1 : fg ⟨t.at', true, up t.de t.at' (t.de t.at' + (cAt cs t.at').li.q)⟩ i = fg t i := by
          unfold fg
          by_cases e2 : i < t.at'
          · rw [if_pos (.inl e2), if_pos (.inl e2)]
          · rw [if_neg (fun x => x.elim e2 (fun y => e y.1)), if_neg (fun x => x.elim e2 (fun y => e y.1))]
        rw [f1]
        exact h.eq i hi
    · show up t.de t.at' _ i ≤ _
      by_cases e : i = t.at'
      · subst e
        rw [up_same, hk.q _ hi]
        omega
      · rw [up_ne e]
        exact h.hi i hi
  · rename_i hc
    refine ⟨h, fun hA => ?_⟩
    rw [hk.rdy hA] at hc
    simpa using hc
/-- the pointer goes on -/
theorem Fr.nxt (hk : Kw A q cs) (hq : QOk cs t) (h : Fr A q s r t) : ∃ r', Fr A q s r' (nxt cs t) := by
  obtain ⟨h1, h2⟩ := h.gr hk hq
  have hat := gr_at cs t
  have hlv : (lvT cs (Go.Proofs.Ytclkcpdghpaboaa.gr cs t)).de = (Go.Proofs.Ytclkcpdghpaboaa.gr cs t).de := by
    unfold lvT
    rw [hk.held]
    rfl
  have hn := hq.tn.at'
  have hf : ∀ i, A i → i ≤ t.at' → fg (Go.Proofs.Ytclkcpdghpaboaa.gr cs t) i = 1 := fun i hi hl => by
    unfold fg
    rw [hat]
    by_cases e : i = t.at'
    · subst e
      rw [if_pos (.inr ⟨rfl, h2 hi⟩)]
    · rw [if_pos (.inl (by omega))]
  have hg : ∀ i, t.at' < i → fg (Go.Proofs.Ytclkcpdghpaboaa.gr cs t) i = 0 := fun i hl => by
    unfold fg
    rw [hat, if_neg (by omega)]
  by_cases e : t.at' + 1 = cs.length
  · refine ⟨r + 1, fun i hi => ?_, fun i hi => ?_⟩
    · show s i + (lvT cs (Go.Proofs.Ytclkcpdghpaboaa.gr cs t)).de i = (r + 1 + fg ⟨(t.at' + 1) % cs.length, false, _⟩ i - og i) * q i
      have f0 : fg ⟨(t.at' + 1) % cs.length, false, (lvT cs (Go.Proofs.Ytclkcpdghpaboaa.gr cs t)).de⟩ i = 0 := by
        unfold fg
        rw [if_neg]
        rintro (x | x)
        · have x' : i < (t.at' + 1) % cs.length := x
          rw [e, Nat.mod_self] at x'
          omega
        · cases x.2
      rw [f0, hlv, h1.eq i hi, hf i hi (by have := hk.lt i hi; omega)]
      congr 1
      omega
    · show (lvT cs (Go.Proofs.Ytclkcpdghpaboaa.gr cs t)).de i ≤ _
      rw [hlv]
      exact h1.hi i hi
  · refine ⟨r, fun i hi => ?_, fun i hi => ?_⟩
    · show s i + (lvT cs (Go.Proofs.Ytclkcpdghpaboaa.gr cs t)).de i = (r + fg ⟨(t.at' + 1) % cs.length, false, _⟩ i - og i) * q i
      have f0 : fg ⟨(t.at' + 1) % cs.length, false, (lvT cs (Go.Proofs.Ytclkcpdghpaboaa.gr cs t)).de⟩ i = fg (Go.Proofs.Ytclkcpdghpaboaa.gr cs t) i := by
        by_cases e2 : i ≤ t.at'
        · rw [hf i hi e2]
          unfold fg
          rw [if_pos (.inl (by show i < (t.at' + 1) % cs.length; rw [Nat.mod_eq_of_lt (by omega)]; omega))]
        · rw [hg i (by omega)]
          unfold fg
          rw [if_neg]
          rintro (x | x)
          · have x' : i < (t.at' + 1) % cs.length := x
            rw [Nat.mod_eq_of_lt (by omega)] at x'
            omega
          · cases x.2
      rw [f0, hlv]
      exact h1.eq i hi
    · show (lvT cs (Go.Proofs.Ytclkcpdghpaboaa.gr cs t)).de i ≤ _
      rw [hlv]
      exact h1.hi i hi
/-- where the walk ends -/
theorem Fr.run {u : TN} (hr : Run cs t u) (hk : Kw A q cs) : QOk cs t → ∀ r, Fr A q s r t → ∃ r', Fr A q s r' u := by
  induction hr with
  | stop t _ => intro hq r h; exact ⟨r, (h.gr hk hq).1⟩
  | step t u hs _ ih =>
    intro hq r h
    obtain ⟨r', h'⟩ := h.nxt hk hq
    exact ih (hq.nxt hs) r' h'
/-- neither is ahead by more than two rounds and a greatest item -/
theorem Fr.fair (h : Fr A q s r t) {i j : Nat} (hi : A i) (hj : A j) (hqi : 0 ≤ q i) (hqj : 0 ≤ q j) (hd : 0 ≤ t.de i) : s i * q j - s j * q i ≤ 2 * (q i * q j) + 65535 * (q i + q j) := by
  have e1 := h.eq i hi
  have e2 := h.eq j hj
  obtain ⟨a, ha⟩ : ∃ a, a = fg t i - og i := ⟨_, rfl⟩
  obtain ⟨b, hb⟩ : ∃ b, b = fg t j - og j := ⟨_, rfl⟩
  have hab : a - b ≤ 1 := by
    rw [ha, hb]
    unfold fg og
    split <;> split <;> split <;> split <;> omega
  have s1 : s i = (r + a) * q i - t.de i := by rw [show r + fg t i - og i = r + a by omega] at e1; omega
  have s2 : s j = (r + b) * q j - t.de j := by rw [show r + fg t j - og j = r + b by omega] at e2; omega
  have hX : 0 ≤ q i * q j := Int.mul_nonneg hqi hqj
  have p1 : s i * q j = (r + a) * (q i * q j) - t.de i * q j := by rw [s1, Int.sub_mul, Int.mul_assoc]
  have p2 : s j * q i = (r + b) * (q i * q j) - t.de j * q i := by rw [s2, Int.sub_mul, Int.mul_assoc, Int.mul_comm (q j) (q i)]
  have p3 : (r + a) * (q i * q j) - (r + b) * (q i * q j) = (a - b) * (q i * q j) := by rw [← Int.sub_mul]; congr 1; omega
  have p4 : (a - b) * (q i * q j) ≤ 1 * (q i * q j) := Int.mul_le_mul_of_nonneg_right hab hX
  have p5 : 0 ≤ t.de i * q j := Int.mul_nonneg hd hqj
  have p6 : t.de j * q i ≤ (65535 + q j) * q i := Int.mul_le_mul_of_nonneg_right (h.hi j hj) hqi
  have p7 : (65535 + q j) * q i = 65535 * q i + q i * q j := by rw [Int.add_mul, Int.mul_comm (q j) (q i)]
  have p8 : 65535 * (q i + q j) = 65535 * q i + 65535 * q j := Int.mul_add ..
  omega
end
end Go.Proofs.Ytclkcpdghpaboaa
