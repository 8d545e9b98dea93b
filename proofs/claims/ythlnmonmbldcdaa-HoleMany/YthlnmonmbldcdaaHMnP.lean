/-
  HoleMany in numbers: the pieces of one size, first each second one, then the others from behind.
-/
import Derived.Test.YthlnmonmbldcdaaHPiP
namespace Go.Proofs.Ythlnmonmbldcdaa
namespace H11

theorem Ris.unique {hi : Nat} : ∀ {gs gs' : List (Nat × Nat)} {lo : Nat}, Ris lo gs hi → Ris lo gs' hi → (∀ i, inG gs i ↔ inG gs' i) → gs = gs'
  | [], [], _, _, _, _ => rfl
  | [], g :: r, _, _, ⟨_, h2, _, _⟩, h => absurd ((h g.1).2 (in_cons.2 (.inl ⟨Nat.le_refl _, h2⟩))) in_nil
  | g :: r, [], _, ⟨_, h2, _, _⟩, _, h => absurd ((h g.1).1 (in_cons.2 (.inl ⟨Nat.le_refl _, h2⟩))) in_nil
  | g :: r, g' :: r', lo, ⟨a1, a2, a3, a4⟩, ⟨b1, b2, b3, b4⟩, h => by
    have e1 : g.1 = g'.1 := by
      have k1 := (h g.1).1 (in_cons.2 (.inl ⟨Nat.le_refl _, a2⟩))
      have k2 := (h g'.1).2 (in_cons.2 (.inl ⟨Nat.le_refl _, b2⟩))
      have m1 : g'.1 ≤ g.1 := by
        rcases in_cons.1 k1 with q | q
        · exact q.1
        · have := (b4.out q).1; omega
      have m2 : g.1 ≤ g'.1 := by
        rcases in_cons.1 k2 with q | q
        · exact q.1
        · have := (a4.out q).1; omega
      omega
    have e2 : g.2 = g'.2 := by
      apply Classical.byContradiction
      intro c
      by_cases c2 : g.2 < g'.2
      · rcases in_cons.1 ((h g.2).2 (in_cons.2 (.inl (by omega)))) with q | q
        · omega
        · have := (a4.out q).1; omega
      · rcases in_cons.1 ((h g'.2).1 (in_cons.2 (.inl (by omega)))) with q | q
        · omega
        · have := (b4.out q).1; omega
    obtain ⟨x, y⟩ := g
    obtain ⟨x', y'⟩ := g'
    simp only at e1 e2
    subst e1 e2
    congr 1
    refine Ris.unique a4 b4 (fun i => ⟨fun q => ?_, fun q => ?_⟩)
    · have := (a4.out q).1
      rcases in_cons.1 ((h i).1 (in_cons.2 (.inr q))) with k | k
      · simp only at k this; omega
      · exact k
    · have := (b4.out q).1
      rcases in_cons.1 ((h i).2 (in_cons.2 (.inr q))) with k | k
      · simp only at k this; omega
      · exact k
theorem Ris.none {hi : Nat} : ∀ {gs : List (Nat × Nat)} {lo : Nat}, Ris lo gs hi → sm gs = 0 → gs = []
  | [], _, _, _ => rfl
  | g :: r, _, ⟨_, h2, _, _⟩, h => by simp only [sm] at h; omega

/-- a list of holes told one by one -/
def gl (E : Nat → Nat × Nat) : Nat → Nat → List (Nat × Nat)
  | _, 0 => []
  | a, c + 1 => E a :: gl E (a + 1) c
theorem gl_len (E : Nat → Nat × Nat) : ∀ c a, (gl E a c).length = c
  | 0, _ => rfl
  | c + 1, a => by simp [gl, gl_len E c]
theorem gl_ris (E : Nat → Nat × Nat) (hi : Nat) : ∀ c a lo, (0 < c → lo ≤ (E a).1) → (∀ t, a ≤ t → t < a + c → (E t).1 < (E t).2 ∧ (E t).2 ≤ hi) → (∀ t, a ≤ t → t + 1 < a + c → (E t).2 < (E (t + 1)).1) → Ris lo (gl E a c) hi
  | 0, _, _, _, _, _ => trivial
  | c + 1, a, lo, h0, h1, h2 => by
    refine ⟨h0 (by omega), (h1 a (Nat.le_refl _) (by omega)).1, (h1 a (Nat.le_refl _) (by omega)).2, ?_⟩
    refine gl_ris E hi c (a + 1) _ (fun hc => h2 a (Nat.le_refl _) (by omega)) (fun t a1 a2 => h1 t (by omega) (by omega)) (fun t a1 a2 => h2 t (by omega) (by omega))
theorem gl_in (E : Nat → Nat × Nat) (i : Nat) : ∀ c a, inG (gl E a c) i ↔ ∃ t, a ≤ t ∧ t < a + c ∧ (E t).1 ≤ i ∧ i < (E t).2
  | 0, a => ⟨fun q => absurd q in_nil, fun ⟨t, h1, h2, _⟩ => by omega⟩
  | c + 1, a => by
    rw [gl, in_cons, gl_in E i c (a + 1)]
    constructor
    · rintro (q | ⟨t, h1, h2, h3⟩)
      · exact ⟨a, Nat.le_refl _, by omega, q⟩
      · exact ⟨t, by omega, by omega, h3⟩
    · rintro ⟨t, h1, h2, h3⟩
      by_cases e : t = a
      · subst e; exact .inl h3
      · exact .inr ⟨t, by omega, by omega, h3⟩

/-- the sizes: k pieces of sz bytes, the last one shorter or not -/
def szs (N sz k : Nat) : List Nat := (List.range k).map (fun j => min N ((j + 1) * sz) - j * sz)
theorem szs_len (N sz k : Nat) : (szs N sz k).length = k := by simp [szs]
theorem szs_at (N sz k j : Nat) (h : j < k) : (szs N sz k).getD j 0 = min N ((j + 1) * sz) - j * sz := by simp [szs, List.getD, h]
structure Szs (N sz k : Nat) : Prop where
  n1 : 1 ≤ N
  s1 : 8 ≤ sz
  s8 : sz % 8 = 0
  k1 : 1 ≤ k
  lt : ∀ j, j < k → j * sz < N
  ge : N ≤ k * sz
section
variable {N sz k : Nat} (h : Szs N sz k)
include h
theorem Szs.ofs (j : Nat) (hj : j ≤ k) : ofs (szs N sz k) j = min N (j * sz) := by
  induction j with
  | zero => rw [ofs_zero]; simp
  | succ j ih =>
    rw [ofs_succ _ j (by rw [szs_len]; omega), ih (by omega), szs_at N sz k j (by omega)]
    have h1 := h.lt j (by omega)
    have e1 : (j + 1) * sz = j * sz + sz := by rw [Nat.add_mul, Nat.one_mul]
    omega
theorem Szs.cut : Cut (szs N sz k) N where
  sum := by
    have h1 := h.ofs k (Nat.le_refl _)
    have h2 := ofs_len (szs N sz k)
    rw [szs_len] at h2
    have := h.ge
    omega
  pos := by
    intro j hj
    rw [szs_len] at hj
    have h1 := h.lt j hj
    rw [szs_at N sz k j hj]
    have e1 : (j + 1) * sz = j * sz + sz := by rw [Nat.add_mul, Nat.one_mul]
    have := h.s1
    omega
  m8 := by
    intro j hj
    rw [szs_len] at hj
    have h1 := h.lt (j + 1) hj
    rw [szs_at N sz k j (by omega)]
    have e1 : (j + 1) * sz = j * sz + sz := by rw [Nat.add_mul, Nat.one_mul]
    have := h.s8
    rw [show min N ((j + 1) * sz) - j * sz = sz by omega]
    exact this
end

/-- which have come behind i rounds -/
def CI (k i j : Nat) : Bool := if j % 2 = 1 then decide (j < 2 * i) else decide (4 * k ≤ j + 2 * i)
def jI (k i : Nat) : Nat := if i < k then 2 * i + 1 else 2 * (2 * k - 1 - i)
theorem CI_skip {k i : Nat} (hi : i < 2 * k) (hj : k ≤ jI k i) (j : Nat) (h : j < k) : CI k (i + 1) j = CI k i j := by
  unfold CI
  unfold jI at hj
  split
  · rename_i c
    congr 1
    apply propext
    split at hj <;> omega
  · rename_i c
    congr 1
    apply propext
    split at hj <;> omega
theorem CI_no {k i : Nat} (hi : i < 2 * k) : CI k i (jI k i) = false := by
  unfold CI jI
  by_cases c : i < k
  · rw [if_pos c, if_pos (by omega)]
    exact decide_eq_false (by omega)
  · rw [if_neg c, if_neg (by omega)]
    exact decide_eq_false (by omega)
theorem CI_yes {k i : Nat} (hi : i < 2 * k) (j : Nat) (h : j < k) : CI k (i + 1) j = updB (CI k i) (jI k i) j := by
  by_cases e : j = jI k i
  · rw [e, updB_same]
    unfold CI
    unfold jI
    split
    · rename_i c
      split
      · exact decide_eq_true (by omega)
      · omega
    · rename_i c
      split
      · omega
      · exact decide_eq_true (by omega)
  · rw [updB_other _ _ _ e]
    unfold CI
    unfold jI at e
    split
    · rename_i c
      congr 1
      apply propext
      split at e <;> omega
    · rename_i c
      congr 1
      apply propext
      split at e <;> omega
theorem CI_start (k j : Nat) (h : j < k) : CI k 0 j = false := by
  unfold CI
  split
  · exact decide_eq_false (by omega)
  · exact decide_eq_false (by omega)
theorem CI_end (k j : Nat) (h : j < k) : CI k (2 * k) j = true := by
  unfold CI
  split
  · exact decide_eq_true (by omega)
  · exact decide_eq_true (by omega)
theorem CI_mid (k j : Nat) (h : j < k) : CI k k j = decide (j % 2 = 1) := by
  unfold CI
  split
  · rename_i c; rw [decide_eq_true c]; exact decide_eq_true (by omega)
  · rename_i c; rw [decide_eq_false c]; exact decide_eq_false (by omega)

theorem PSt.congr {D ns : List Nat} {C C' : Nat → Bool} {s : HS} (h : PSt D ns C s) (hl : 0 < ns.length) (e : ∀ j, j < ns.length → C j = C' j) : PSt D ns C' s where
  inv := h.inv
  mx := h.mx
  en := by rw [h.en, e _ (by omega)]
  hold := by intro k i hk a b; rw [h.hold k i hk a b, e k hk]
  bytes := by intro k i hk c a b; exact h.bytes k i hk (by rw [e k hk]; exact c) a b
  bl := h.bl
  bl2 := by intro k hk c; exact h.bl2 k hk (by rw [e k hk]; exact c)
  tk := by intro k hk; rw [h.tk k hk, e k hk]

/-- how many bytes have come -/
def hB (ns : List Nat) (C : Nat → Bool) : Nat → Nat
  | 0 => 0
  | n + 1 => hB ns C n + (if C n = true then ns.getD n 0 else 0)
theorem hB_congr {ns : List Nat} {C C' : Nat → Bool} : ∀ n, (∀ k, k < n → C k = C' k) → hB ns C n = hB ns C' n
  | 0, _ => rfl
  | n + 1, h => by simp only [hB]; rw [hB_congr n (fun k hk => h k (by omega)), h n (by omega)]
theorem hB_upd (ns : List Nat) (C : Nat → Bool) (k : Nat) (hc : C k = false) : ∀ n, k < n → hB ns (updB C k) n = hB ns C n + ns.getD k 0
  | 0, h => by omega
  | n + 1, h => by
    simp only [hB]
    by_cases e : k = n
    · subst e
      rw [updB_same, hB_congr (C := updB C k) (C' := C) k (fun j hj => updB_other C k j (by omega)), hc]
      simp
    · rw [hB_upd ns C k hc n (by omega), updB_other C k n (fun q => e q.symm)]
      omega
theorem hB_le (ns : List Nat) (C : Nat → Bool) : ∀ n, n ≤ ns.length → hB ns C n ≤ ofs ns n
  | 0, _ => by simp [hB]
  | n + 1, h => by
    have := hB_le ns C n (by omega)
    rw [ofs_succ ns n (by omega)]
    simp only [hB]
    split <;> omega
theorem hB_all {ns : List Nat} {N : Nat} (hc : Cut ns N) (C : Nat → Bool) : ∀ n, n ≤ ns.length → (hB ns C n = ofs ns n ↔ ∀ k, k < n → C k = true)
  | 0, _ => by simp [hB, ofs_zero]
  | n + 1, h => by
    have ih := hB_all hc C n (by omega)
    have hle := hB_le ns C n (by omega)
    have hp := hc.pos n (by omega)
    rw [ofs_succ ns n (by omega)]
    simp only [hB]
    constructor
    · intro q k hk
      by_cases c : C n = true
      · rw [if_pos c] at q
        by_cases e : k = n
        · rw [e]; exact c
        · exact ih.1 (by omega) k (by omega)
      · rw [if_neg c] at q; omega
    · intro q
      rw [if_pos (q n (by omega)), ih.2 (fun k hk => q k (by omega))]
theorem hB_none (ns : List Nat) (C : Nat → Bool) : ∀ n, (∀ k, k < n → C k = false) → hB ns C n = 0
  | 0, _ => rfl
  | n + 1, h => by simp only [hB]; rw [hB_none ns C n (fun k hk => h k (by omega)), h n (by omega)]; simp

/-- as many holes as pieces are wanting -/
theorem PSt.gapsMid {D : List Nat} {N sz k : Nat} {s : HS} (hN : D.length = N) (hs : Szs N sz k) (h : PSt D (szs N sz k) (CI k k) s) : s.gp.length = (k + 1) / 2 := by
  have hk1 := hs.k1
  have hlen := szs_len N sz k
  have hofs := hs.ofs
  have hcut := hs.cut
  have hen := h.en
  rw [hlen, CI_mid k (k - 1) (by omega), hN] at hen
  have hmx := h.mx
  have hmx2 := h.inv.e1
  have hn1 := hs.n1
  have hNm : N ≤ 65535 := by
    have := h.inv.ris
    by_cases c : (k - 1) % 2 = 1
    · rw [decide_eq_true c, if_pos rfl] at hen; omega
    · -- the last piece has not come: its last place is free
      have h1 := hcut.pos (k - 1) (by rw [hlen]; omega)
      have h2 := ofs_succ (szs N sz k) (k - 1) (by rw [hlen]; omega)
      have h3 := hcut.last (k - 1) (by rw [hlen]; omega)
      have h4 := (h.hold (k - 1) (N - 1) (by rw [hlen]; omega) (by omega) (by omega)).2 (by rw [CI_mid k (k - 1) (by omega)]; exact decide_eq_false c)
      have h5 := (h.inv.ris.out h4).2
      have h6 := (HS.bd_le h.inv).2
      omega
  have hbd : s.bd = if (k - 1) % 2 = 1 then N else 65535 := by
    unfold HS.bd
    by_cases c : (k - 1) % 2 = 1
    · rw [decide_eq_true c, if_pos rfl] at hen
      rw [if_pos c, if_pos (by omega), hen]
    · rw [decide_eq_false c, if_neg (by simp)] at hen
      rw [if_neg c, if_neg (by omega), hmx]
  have hNbd : N ≤ s.bd := by rw [hbd]; split <;> omega
  have key : s.gp = gl (fun t => (ofs (szs N sz k) (2 * t), if 2 * t + 2 ≤ k then ofs (szs N sz k) (2 * t + 1) else s.bd)) 0 ((k + 1) / 2) := by
    have hlt : ∀ j, j < k → ofs (szs N sz k) j < ofs (szs N sz k) (j + 1) := by
      intro j hj
      have h1 := hcut.pos j (by rw [hlen]; exact hj)
      have h2 := ofs_succ (szs N sz k) j (by rw [hlen]; exact hj)
      omega
    refine Ris.unique h.inv.ris (gl_ris _ s.bd _ _ _ (fun _ => Nat.zero_le _) ?_ ?_) ?_
    · intro t _ ht
      simp only [Nat.zero_add] at ht ⊢
      have h1 := hlt (2 * t) (by omega)
      have h2 := hcut.le (2 * t + 1)
      split <;> omega
    · intro t _ ht
      simp only [Nat.zero_add] at ht ⊢
      rw [if_pos (by omega)]
      have h1 := hlt (2 * t + 1) (by omega)
      rw [show 2 * (t + 1) = 2 * t + 1 + 1 by omega]
      exact h1
    · intro i
      rw [gl_in]
      constructor
      · intro q
        have hib := (h.inv.ris.out q).2
        by_cases c : i < N
        · obtain ⟨j, j1, j2, j3⟩ := hcut.cover i c
          rw [hlen] at j1
          have := (h.hold j i (by rw [hlen]; exact j1) j2 j3).1 q
          rw [CI_mid k j j1] at this
          have hj2 := of_decide_eq_false this
          refine ⟨j / 2, by omega, by omega, ?_, ?_⟩
          · rw [show 2 * (j / 2) = j by omega]; exact j2
          · simp only []
            rw [show 2 * (j / 2) = j by omega]
            split
            · exact j3
            · exact hib
        · -- behind the data: the end is not known
          have hc2 : ¬ (k - 1) % 2 = 1 := by intro c2; rw [hbd, if_pos c2] at hib; omega
          refine ⟨(k - 1) / 2, by omega, by omega, ?_, ?_⟩
          · have := hcut.le (2 * ((k - 1) / 2))
            simp only []
            omega
          · simp only []
            rw [if_neg (by omega)]
            exact hib
      · rintro ⟨t, _, t2, t3, t4⟩
        simp only [Nat.zero_add] at t2 t3 t4
        by_cases c : 2 * t + 2 ≤ k
        · rw [if_pos c] at t4
          exact (h.hold (2 * t) i (by rw [hlen]; omega) t3 t4).2 (by rw [CI_mid k (2 * t) (by omega)]; exact decide_eq_false (by omega))
        · rw [if_neg c] at t4
          by_cases c2 : i < N
          · have h3 := hcut.last (2 * t) (by rw [hlen]; omega)
            exact (h.hold (2 * t) i (by rw [hlen]; omega) t3 (by omega)).2 (by rw [CI_mid k (2 * t) (by omega)]; exact decide_eq_false (by omega))
          · exact h.inv.hd i (by have := h.bl; omega) t4
  rw [key, gl_len]
end H11
end Go.Proofs.Ythlnmonmbldcdaa
