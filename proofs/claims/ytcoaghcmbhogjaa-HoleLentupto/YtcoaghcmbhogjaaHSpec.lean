/-
  Package hole in numbers: a list of holes, what a piece does to it and to the bytes, and what stays true.
-/
namespace Go.Proofs.Ytcoaghcmbhogjaa
namespace H11

structure HS where
  mx : Nat
  en : Nat
  bs : List Nat
  gp : List (Nat × Nat)
  tk : List (Nat × Nat × Bool)

/-- up to where holes may be -/
def HS.bd (s : HS) : Nat := if 0 < s.en then s.en else s.mx

/-- why a piece is refused -/
def rf (s : HS) (off : Int) (n : Nat) (more : Bool) : Int :=
  if 65535 < n then 2
  else if off < 0 ∨ off.tmod 8 ≠ 0 ∨ (more = true ∧ (n : Int).tmod 8 ≠ 0) then 110
  else if n = 0 then 111
  else if (s.mx : Int) - n < off then 112
  else if 0 < s.en ∧ more = true ∧ (s.en : Int) < off + n then 113
  else if 0 < s.en ∧ more = false ∧ off + n ≠ s.en then 114
  else if s.en = 0 ∧ more = false ∧ off + n < s.bs.length then 114
  else 0

/-- the holes behind a piece -/
def fG (o e : Nat) : List (Nat × Nat) → List (Nat × Nat)
  | [] => []
  | g :: r => if g.2 ≤ o then g :: fG o e r else if e ≤ g.1 then g :: r
    else (if g.1 < max g.1 o then [(g.1, max g.1 o)] else []) ++ ((if min g.2 e < g.2 then [(min g.2 e, g.2)] else []) ++ fG o e r)

/-- how many of its places were free -/
def fN (o e : Nat) : List (Nat × Nat) → Nat
  | [] => 0
  | g :: r => if g.2 ≤ o then fN o e r else if e ≤ g.1 then 0 else (min g.2 e - max g.1 o) + fN o e r

def spl (b : List Nat) (k : Nat) (x : List Nat) : List Nat := b.take k ++ x ++ b.drop (k + x.length)

/-- the bytes behind it -/
def fB (o e : Nat) (d : List Nat) : List (Nat × Nat) → List Nat → List Nat
  | [], b => b
  | g :: r, b => if g.2 ≤ o then fB o e d r b else if e ≤ g.1 then b
    else fB o e d r (spl b (max g.1 o) ((d.drop (max g.1 o - o)).take (min g.2 e - max g.1 o)))

def rB (b : List Nat) (e : Nat) : List Nat := b ++ List.replicate (e - b.length) 0

/-- what a piece that is taken leaves -/
def pt (s : HS) (o : Nat) (d : List Nat) (more : Bool) : HS :=
  { mx := s.mx, en := if more = true then s.en else o + d.length, bs := fB o (o + d.length) d s.gp (rB s.bs (o + d.length)),
    gp := if more = false ∧ s.en = 0 ∧ o + d.length < s.mx then (fG o (o + d.length) s.gp).dropLast else fG o (o + d.length) s.gp,
    tk := (o, d.length, more) :: s.tk }

def inG (gs : List (Nat × Nat)) (i : Nat) : Prop := ∃ g, g ∈ gs ∧ g.1 ≤ i ∧ i < g.2

/-- rising, none empty, no two adjacent, from lo on up to hi -/
def Ris : Nat → List (Nat × Nat) → Nat → Prop
  | _, [], _ => True
  | lo, g :: r, hi => lo ≤ g.1 ∧ g.1 < g.2 ∧ g.2 ≤ hi ∧ Ris (g.2 + 1) r hi

def sm : List (Nat × Nat) → Nat
  | [] => 0
  | g :: r => (g.2 - g.1) + sm r

theorem Ris.mono {lo lo' hi : Nat} (h : lo' ≤ lo) : ∀ {gs : List (Nat × Nat)}, Ris lo gs hi → Ris lo' gs hi
  | [], _ => trivial
  | _ :: _, ⟨h1, h2, h3, h4⟩ => ⟨by omega, h2, h3, h4⟩

theorem Ris.out {hi : Nat} : ∀ {gs : List (Nat × Nat)} {lo i : Nat}, Ris lo gs hi → inG gs i → lo ≤ i ∧ i < hi
  | [], _, _, _, ⟨g, hg, _⟩ => absurd hg (by simp)
  | g0 :: r, lo, i, ⟨h1, h2, h3, h4⟩, ⟨g, hg, ha, hb⟩ => by
    rcases List.mem_cons.1 hg with rfl | hg
    · omega
    · have := Ris.out h4 ⟨g, hg, ha, hb⟩
      omega

theorem Ris.len {hi : Nat} : ∀ {gs : List (Nat × Nat)} {lo : Nat}, Ris lo gs hi → gs.length ≤ hi - lo
  | [], _, _ => by simp
  | g :: r, lo, ⟨h1, h2, h3, h4⟩ => by
    have := Ris.len h4
    simp only [List.length_cons]
    omega

theorem Ris.sum {hi : Nat} : ∀ {gs : List (Nat × Nat)} {lo : Nat}, Ris lo gs hi → sm gs ≤ hi - lo
  | [], _, _ => by simp [sm]
  | g :: r, lo, ⟨h1, h2, h3, h4⟩ => by
    have := Ris.sum h4
    simp only [sm]
    omega

theorem in_cons {g : Nat × Nat} {r : List (Nat × Nat)} {i : Nat} : inG (g :: r) i ↔ (g.1 ≤ i ∧ i < g.2) ∨ inG r i := by
  constructor
  · rintro ⟨x, hx, h⟩
    rcases List.mem_cons.1 hx with rfl | hx
    · exact .inl h
    · exact .inr ⟨x, hx, h⟩
  · rintro (h | ⟨x, hx, h⟩)
    · exact ⟨g, by simp, h⟩
    · exact ⟨x, by simp [hx], h⟩
theorem in_nil {i : Nat} : ¬ inG [] i := by rintro ⟨g, hg, _⟩; simp at hg
theorem in_app {a b : List (Nat × Nat)} {i : Nat} : inG (a ++ b) i ↔ inG a i ∨ inG b i := by
  induction a with
  | nil => simp [in_nil]
  | cons g r ih => simp only [List.cons_append, in_cons, ih]; exact or_assoc.symm

theorem fG_ris {o e hi : Nat} (hoe : o < e) : ∀ {gs : List (Nat × Nat)} {lo : Nat}, Ris lo gs hi → Ris lo (fG o e gs) hi
  | [], _, _ => trivial
  | g :: r, lo, ⟨h1, h2, h3, h4⟩ => by
    have ih := fG_ris hoe h4
    unfold fG
    by_cases a1 : g.2 ≤ o
    · rw [if_pos a1]; exact ⟨h1, h2, h3, ih⟩
    · rw [if_neg a1]
      by_cases a2 : e ≤ g.1
      · rw [if_pos a2]; exact ⟨h1, h2, h3, h4⟩
      · rw [if_neg a2]
        by_cases a3 : g.1 < max g.1 o <;> by_cases a4 : min g.2 e < g.2 <;> simp only [a3, a4, if_true, if_false, List.nil_append, List.cons_append, Ris]
        · exact ⟨h1, trivial, by omega, by omega, trivial, h3, ih⟩
        · exact ⟨h1, trivial, by omega, ih.mono (by omega)⟩
        · exact ⟨by omega, trivial, h3, ih⟩
        · exact ih.mono (by omega)

theorem fG_in {o e hi i : Nat} (hoe : o < e) : ∀ {gs : List (Nat × Nat)} {lo : Nat}, Ris lo gs hi → (inG (fG o e gs) i ↔ inG gs i ∧ ¬ (o ≤ i ∧ i < e))
  | [], _, _ => by simp [fG, in_nil]
  | g :: r, lo, ⟨h1, h2, h3, h4⟩ => by
    have ih := fG_in (i := i) hoe h4
    have ho : inG r i → g.2 + 1 ≤ i := fun h => (h4.out h).1
    unfold fG
    by_cases a1 : g.2 ≤ o
    · rw [if_pos a1, in_cons, in_cons, ih]
      constructor
      · rintro (h | h)
        · exact ⟨.inl h, by omega⟩
        · exact ⟨.inr h.1, h.2⟩
      · rintro ⟨h | h, k⟩
        · exact .inl h
        · exact .inr ⟨h, k⟩
    · rw [if_neg a1]
      by_cases a2 : e ≤ g.1
      · rw [if_pos a2, in_cons]
        constructor
        · rintro (h | h)
          · exact ⟨.inl h, by omega⟩
          · exact ⟨.inr h, by have := ho h; omega⟩
        · exact fun h => h.1
      · rw [if_neg a2, in_app, in_app, ih, in_cons]
        have e1 : inG (if g.1 < max g.1 o then [(g.1, max g.1 o)] else []) i ↔ g.1 ≤ i ∧ i < o := by
          by_cases a3 : g.1 < max g.1 o
          · rw [if_pos a3, in_cons]
            constructor
            · rintro (h | h)
              · simp only [] at h; omega
              · exact absurd h in_nil
            · intro h; exact .inl (by simp only []; omega)
          · rw [if_neg a3]
            exact ⟨fun h => absurd h in_nil, fun h => by omega⟩
        have e2 : inG (if min g.2 e < g.2 then [(min g.2 e, g.2)] else []) i ↔ e ≤ i ∧ i < g.2 := by
          by_cases a3 : min g.2 e < g.2
          · rw [if_pos a3, in_cons]
            constructor
            · rintro (h | h)
              · simp only [] at h; omega
              · exact absurd h in_nil
            · intro h; exact .inl (by simp only []; omega)
          · rw [if_neg a3]
            exact ⟨fun h => absurd h in_nil, fun h => by omega⟩
        rw [e1, e2]
        constructor
        · rintro (h | h | h)
          · exact ⟨.inl (by omega), by omega⟩
          · exact ⟨.inl (by omega), by omega⟩
          · exact ⟨.inr h.1, h.2⟩
        · rintro ⟨h | h, k⟩
          · by_cases b : i < o
            · exact .inl (by omega)
            · exact .inr (.inl (by omega))
          · exact .inr (.inr ⟨h, k⟩)

theorem sm_app (a b : List (Nat × Nat)) : sm (a ++ b) = sm a + sm b := by
  induction a with
  | nil => simp [sm]
  | cons g r ih => simp only [List.cons_append, sm, ih]; omega

theorem fG_sum {o e hi : Nat} (hoe : o < e) : ∀ {gs : List (Nat × Nat)} {lo : Nat}, Ris lo gs hi → sm (fG o e gs) + fN o e gs = sm gs
  | [], _, _ => by simp [fG, fN, sm]
  | g :: r, lo, ⟨h1, h2, h3, h4⟩ => by
    have ih := fG_sum hoe h4
    unfold fG fN
    by_cases a1 : g.2 ≤ o
    · rw [if_pos a1, if_pos a1]; simp only [sm]; omega
    · rw [if_neg a1, if_neg a1]
      by_cases a2 : e ≤ g.1
      · rw [if_pos a2, if_pos a2]; simp only [sm]; omega
      · rw [if_neg a2, if_neg a2, sm_app, sm_app]
        by_cases a3 : g.1 < max g.1 o <;> by_cases a4 : min g.2 e < g.2 <;> simp only [a3, a4, if_true, if_false, sm] <;> omega

theorem fN_le {o e hi : Nat} (hoe : o ≤ e) : ∀ {gs : List (Nat × Nat)} {lo : Nat}, Ris lo gs hi → fN o e gs ≤ e - max lo o
  | [], _, _ => by simp [fN]
  | g :: r, lo, ⟨h1, h2, h3, h4⟩ => by
    have ih := fN_le hoe h4
    unfold fN
    by_cases a1 : g.2 ≤ o
    · rw [if_pos a1]; omega
    · rw [if_neg a1]
      by_cases a2 : e ≤ g.1
      · rw [if_pos a2]; omega
      · rw [if_neg a2]; omega

theorem spl_len (b : List Nat) (k : Nat) (x : List Nat) (h : k + x.length ≤ b.length) : (spl b k x).length = b.length := by
  simp only [spl, List.length_append, List.length_take, List.length_drop]; omega
theorem spl_get (b : List Nat) (k : Nat) (x : List Nat) (h : k + x.length ≤ b.length) (i : Nat) : (spl b k x).getD i 0 = if k ≤ i ∧ i < k + x.length then x.getD (i - k) 0 else b.getD i 0 := by
  have hk : (b.take k).length = k := by rw [List.length_take]; omega
  have hkx : (b.take k ++ x).length = k + x.length := by rw [List.length_append, hk]
  unfold spl
  simp only [List.getD]
  by_cases h1 : i < k
  · rw [if_neg (by omega), List.getElem?_append_left (by omega), List.getElem?_append_left (by omega), List.getElem?_take, if_pos h1]
  · by_cases h2 : i < k + x.length
    · rw [if_pos ⟨by omega, h2⟩, List.getElem?_append_left (by omega), List.getElem?_append_right (by omega), hk]
    · rw [if_neg (by omega), List.getElem?_append_right (by omega), hkx, List.getElem?_drop]
      congr 2
      omega

theorem seg_len (d : List Nat) (o a b : Nat) (h : b ≤ o + d.length) (ha : o ≤ a) : ((d.drop (a - o)).take (b - a)).length = b - a := by
  simp only [List.length_take, List.length_drop]; omega

theorem fB_len {o : Nat} {d : List Nat} : ∀ {gs : List (Nat × Nat)} {b : List Nat}, o + d.length ≤ b.length → (fB o (o + d.length) d gs b).length = b.length
  | [], _, _ => rfl
  | g :: r, b, h => by
    unfold fB
    by_cases a1 : g.2 ≤ o
    · rw [if_pos a1]; exact fB_len h
    · rw [if_neg a1]
      by_cases a2 : o + d.length ≤ g.1
      · rw [if_pos a2]
      · rw [if_neg a2]
        have hl := seg_len d o (max g.1 o) (min g.2 (o + d.length)) (by omega) (by omega)
        have e1 := spl_len b (max g.1 o) ((d.drop (max g.1 o - o)).take (min g.2 (o + d.length) - max g.1 o)) (by rw [hl]; omega)
        rw [fB_len (by rw [e1]; exact h), e1]

open Classical in
theorem fB_get {o hi i : Nat} {d : List Nat} : ∀ {gs : List (Nat × Nat)} {lo : Nat} {b : List Nat}, Ris lo gs hi → o + d.length ≤ b.length →
    (fB o (o + d.length) d gs b).getD i 0 = if (o ≤ i ∧ i < o + d.length) ∧ inG gs i then d.getD (i - o) 0 else b.getD i 0
  | [], _, b, _, _ => by
    rw [if_neg (by intro h; exact in_nil h.2)]; rfl
  | g :: r, lo, b, ⟨h1, h2, h3, h4⟩, h => by
    have ho : inG r i → g.2 + 1 ≤ i := fun h => (h4.out h).1
    unfold fB
    by_cases a1 : g.2 ≤ o
    · rw [if_pos a1, fB_get h4 h]
      by_cases c : (o ≤ i ∧ i < o + d.length) ∧ inG r i
      · rw [if_pos c, if_pos ⟨c.1, in_cons.2 (.inr c.2)⟩]
      · rw [if_neg c, if_neg]
        rintro ⟨k1, k2⟩
        rcases in_cons.1 k2 with k | k
        · omega
        · exact c ⟨k1, k⟩
    · rw [if_neg a1]
      by_cases a2 : o + d.length ≤ g.1
      · rw [if_pos a2, if_neg]
        rintro ⟨k1, k2⟩
        rcases in_cons.1 k2 with k | k
        · omega
        · have := ho k; omega
      · rw [if_neg a2]
        have hl := seg_len d o (max g.1 o) (min g.2 (o + d.length)) (by omega) (by omega)
        have hle : max g.1 o + ((d.drop (max g.1 o - o)).take (min g.2 (o + d.length) - max g.1 o)).length ≤ b.length := by rw [hl]; omega
        rw [fB_get h4 (by rw [spl_len _ _ _ hle]; exact h), spl_get _ _ _ hle, hl]
        by_cases c : (o ≤ i ∧ i < o + d.length) ∧ inG r i
        · rw [if_pos c, if_pos ⟨c.1, in_cons.2 (.inr c.2)⟩]
        · rw [if_neg c]
          by_cases c2 : max g.1 o ≤ i ∧ i < max g.1 o + (min g.2 (o + d.length) - max g.1 o)
          · rw [if_pos c2, if_pos ⟨by omega, in_cons.2 (.inl (by omega))⟩]
            simp only [List.getD, List.getElem?_take, List.getElem?_drop]
            rw [if_pos (by omega), show max g.1 o - o + (i - max g.1 o) = i - o by omega]
          · rw [if_neg c2, if_neg]
            rintro ⟨k1, k2⟩
            rcases in_cons.1 k2 with k | k
            · omega
            · exact c ⟨k1, k⟩

/-- the last hole reaches up to hi, if all places from e on are free -/
theorem Ris.last {hi e : Nat} (he : e < hi) (he0 : 0 < e) : ∀ {gs : List (Nat × Nat)} {lo : Nat}, Ris lo gs hi → lo ≤ e → (∀ i, e ≤ i → i < hi → inG gs i) → ¬ inG gs (e - 1) →
    ∃ gs', gs = gs' ++ [(e, hi)] ∧ Ris lo gs' e
  | [], _, _, _, hin, _ => absurd (hin e (Nat.le_refl _) he) in_nil
  | g :: r, lo, ⟨h1, h2, h3, h4⟩, hlo, hin, hno => by
    by_cases c : g.2 < e
    · obtain ⟨gs', rfl, k⟩ := Ris.last he he0 h4 (by omega) (by
        intro i hi1 hi2
        rcases in_cons.1 (hin i hi1 hi2) with h | h
        · omega
        · exact h) (fun h => hno (in_cons.2 (.inr h)))
      exact ⟨g :: gs', rfl, h1, h2, by omega, k⟩
    · have h5 : e ≤ g.1 := by
        apply Classical.byContradiction
        intro h
        by_cases q : g.2 = e
        · rcases in_cons.1 (hin e (Nat.le_refl _) he) with k | k
          · omega
          · have := (h4.out k).1; omega
        · exact hno (in_cons.2 (.inl (by omega)))
      have h6 : g.1 = e := by
        rcases in_cons.1 (hin e (Nat.le_refl _) he) with k | k
        · omega
        · have := (h4.out k).1; omega
      have h7 : g.2 = hi := by
        apply Classical.byContradiction
        intro h
        rcases in_cons.1 (hin g.2 (by omega) (by omega)) with k | k
        · omega
        · have := (h4.out k).1; omega
      have h8 : r = [] := by
        cases r with
        | nil => rfl
        | cons g' r' => obtain ⟨k1, k2, k3, _⟩ := h4; omega
      refine ⟨[], ?_, trivial⟩
      rw [h8]
      obtain ⟨a, b⟩ := g
      simp only at h6 h7
      rw [h6, h7]; rfl

/-- what is always so -/
structure Inv (s : HS) : Prop where
  m1 : 1 ≤ s.mx
  m2 : s.mx ≤ 65535
  e1 : s.en ≤ s.mx
  ris : Ris 0 s.gp s.bd
  bl : s.bs.length ≤ s.bd
  hd : ∀ i, s.bs.length ≤ i → i < s.bd → inG s.gp i
  b8 : ∀ x, x ∈ s.bs → x < 256

def nw (m : Nat) : HS := ⟨m, 0, [], [(0, m)], []⟩
theorem nw_inv (m : Nat) (h1 : 1 ≤ m) (h2 : m ≤ 65535) : Inv (nw m) where
  m1 := h1
  m2 := h2
  e1 := Nat.zero_le _
  ris := by simp [nw, HS.bd, Ris]; omega
  bl := by simp [nw, HS.bd]
  hd := by intro i _ hi; exact ⟨(0, m), by simp [nw], Nat.zero_le _, by simpa [nw, HS.bd] using hi⟩
  b8 := by intro x hx; simp [nw] at hx

theorem HS.bd_le {s : HS} (h : Inv s) : s.bd ≤ 65535 ∧ s.bd ≤ s.mx := by
  have := h.m2; have := h.e1
  unfold HS.bd
  split <;> omega

/-- a piece that is taken -/
structure Ok (s : HS) (o n : Nat) (more : Bool) : Prop where
  n1 : 1 ≤ n
  fit : o + n ≤ s.mx
  a : 0 < s.en → more = true → o + n ≤ s.en
  b : 0 < s.en → more = false → o + n = s.en
  c : s.en = 0 → more = false → s.bs.length ≤ o + n

theorem rf_ok {s : HS} {off : Int} {n : Nat} {more : Bool} (h : rf s off n more = 0) : ∃ o : Nat, off = (o : Int) ∧ Ok s o n more ∧ o % 8 = 0 ∧ (more = true → n % 8 = 0) := by
  unfold rf at h
  split at h
  · simp at h
  split at h
  · simp at h
  split at h
  · simp at h
  split at h
  · simp at h
  split at h
  · simp at h
  split at h
  · simp at h
  split at h
  · simp at h
  rename_i c1 c2 c3 c4 c5 c6 c7
  have d1 : 0 ≤ off := by omega
  obtain ⟨o, rfl⟩ := Int.eq_ofNat_of_zero_le d1
  refine ⟨o, rfl, ⟨by omega, by omega, ?_, ?_, ?_⟩, ?_, ?_⟩
  · intro k1 k2
    exact Classical.byContradiction fun k => c5 ⟨k1, k2, by omega⟩
  · intro k1 k2
    exact Classical.byContradiction fun k => c6 ⟨k1, k2, by omega⟩
  · intro k1 k2
    exact Classical.byContradiction fun k => c7 ⟨k1, k2, by omega⟩
  · refine Classical.byContradiction fun k => c2 (.inr (.inl ?_))
    rw [show (o : Int).tmod 8 = ((o % 8 : Nat) : Int) from rfl]
    omega
  · intro k1
    refine Classical.byContradiction fun k => c2 (.inr (.inr ⟨k1, ?_⟩))
    rw [show (n : Int).tmod 8 = ((n % 8 : Nat) : Int) from rfl]
    omega

theorem rB_len (b : List Nat) (e : Nat) : (rB b e).length = max b.length e := by
  simp only [rB, List.length_append, List.length_replicate]; omega

theorem pt_bs_len (s : HS) (o : Nat) (d : List Nat) (more : Bool) : (pt s o d more).bs.length = max s.bs.length (o + d.length) := by
  show (fB o (o + d.length) d s.gp (rB s.bs (o + d.length))).length = _
  rw [fB_len (by rw [rB_len]; omega), rB_len]

theorem mem_spl {b x : List Nat} {k v : Nat} (h : v ∈ spl b k x) : v ∈ b ∨ v ∈ x := by
  simp only [spl, List.mem_append] at h
  rcases h with (h | h) | h
  · exact .inl (List.mem_of_mem_take h)
  · exact .inr h
  · exact .inl (List.mem_of_mem_drop h)
theorem mem_fB {o e v : Nat} {d : List Nat} : ∀ {gs : List (Nat × Nat)} {b : List Nat}, v ∈ fB o e d gs b → v ∈ b ∨ v ∈ d
  | [], _, h => .inl h
  | g :: r, b, h => by
    unfold fB at h
    by_cases a1 : g.2 ≤ o
    · rw [if_pos a1] at h; exact mem_fB h
    · rw [if_neg a1] at h
      by_cases a2 : e ≤ g.1
      · rw [if_pos a2] at h; exact .inl h
      · rw [if_neg a2] at h
        rcases mem_fB h with h | h
        · rcases mem_spl h with h | h
          · exact .inl h
          · exact .inr (List.mem_of_mem_drop (List.mem_of_mem_take h))
        · exact .inr h

/-- all that a piece does to the holes, place by place -/
theorem pt_inv {s : HS} (h : Inv s) {o : Nat} {d : List Nat} {more : Bool} (hok : Ok s o d.length more) (h256 : ∀ x, x ∈ d → x < 256) :
    Inv (pt s o d more) ∧ (∀ i, i < (pt s o d more).bd → (inG (pt s o d more).gp i ↔ inG s.gp i ∧ ¬ (o ≤ i ∧ i < o + d.length))) ∧
    (pt s o d more).bd + sm s.gp = s.bd + sm (pt s o d more).gp + fN o (o + d.length) s.gp := by
  have hn := hok.n1
  have hr := fG_ris (o := o) (e := o + d.length) (by omega) h.ris
  have hin := fun i => fG_in (i := i) (o := o) (e := o + d.length) (by omega) h.ris
  have hs := fG_sum (o := o) (e := o + d.length) (by omega) h.ris
  have hbl := pt_bs_len s o d more
  have hb := h.bl
  have hfit := hok.fit
  have h8 : ∀ x, x ∈ (pt s o d more).bs → x < 256 := by
    intro x hx
    rcases mem_fB hx with hx | hx
    · simp only [rB, List.mem_append, List.mem_replicate] at hx
      rcases hx with hx | hx
      · exact h.b8 x hx
      · omega
    · exact h256 x hx
  have he1 := h.e1
  by_cases hd : more = false ∧ s.en = 0 ∧ o + d.length < s.mx
  · obtain ⟨rfl, c2, c3⟩ := hd
    have hbd : s.bd = s.mx := by unfold HS.bd; rw [if_neg (by omega)]
    have c4 := hok.c c2 rfl
    have hgp : (pt s o d false).gp = (fG o (o + d.length) s.gp).dropLast := if_pos ⟨rfl, c2, c3⟩
    have hen : (pt s o d false).en = o + d.length := rfl
    have hbd' : (pt s o d false).bd = o + d.length := by unfold HS.bd; rw [hen, if_pos (by omega)]
    rw [hbd] at hr hb
    obtain ⟨gs', e1, e2⟩ := hr.last (e := o + d.length) c3 (by omega) (Nat.zero_le _) (by
      intro i h1 h2
      exact (hin i).2 ⟨h.hd i (by omega) (by omega), by omega⟩) (by
      intro k
      have := (hin _).1 k
      exact this.2 (by omega))
    have e3 : (pt s o d false).gp = gs' := by rw [hgp, e1, List.dropLast_concat]
    have e4 : sm gs' + (s.mx - (o + d.length)) = sm (fG o (o + d.length) s.gp) := by rw [e1, sm_app]; simp [sm]
    refine ⟨⟨h.m1, h.m2, by rw [hen]; exact Nat.le_of_lt c3, by rw [hbd', e3]; exact e2, by rw [hbl, hbd']; omega, ?_, h8⟩, ?_, ?_⟩
    · intro i k1 k2
      rw [hbl] at k1
      rw [hbd'] at k2
      omega
    · intro i hi
      rw [hbd'] at hi
      rw [e3, ← hin i, e1, in_app]
      constructor
      · exact fun k => .inl k
      · rintro (k | k)
        · exact k
        · rcases in_cons.1 k with k | k
          · simp only [] at k; omega
          · exact absurd k in_nil
    · rw [hbd', hbd, e3]
      omega
  · have hgp : (pt s o d more).gp = fG o (o + d.length) s.gp := if_neg hd
    have hbd' : (pt s o d more).bd = s.bd := by
      unfold HS.bd
      show (if 0 < (if more = true then s.en else o + d.length) then (if more = true then s.en else o + d.length) else s.mx) = _
      cases more with
      | true => rfl
      | false =>
        simp only [Bool.false_eq_true, if_false, true_and] at hd ⊢
        rw [if_pos (by omega)]
        by_cases k : 0 < s.en
        · rw [if_pos k]; exact hok.b k rfl
        · rw [if_neg k]; omega
    have hob : o + d.length ≤ s.bd := by
      unfold HS.bd
      by_cases k : 0 < s.en
      · rw [if_pos k]
        cases more with
        | true => exact hok.a k rfl
        | false => exact Nat.le_of_eq (hok.b k rfl)
      · rw [if_neg k]; exact hfit
    have hen : (pt s o d more).en ≤ s.mx := by
      show (if more = true then s.en else o + d.length) ≤ s.mx
      split <;> omega
    refine ⟨⟨h.m1, h.m2, hen, by rw [hbd', hgp]; exact hr, by rw [hbl, hbd']; omega, ?_, h8⟩, ?_, ?_⟩
    · intro i k1 k2
      rw [hbl] at k1
      rw [hbd'] at k2
      rw [hgp]
      exact (hin i).2 ⟨h.hd i (by omega) k2, by omega⟩
    · intro i _
      rw [hgp]
      exact hin i
    · rw [hbd', hgp]
      omega

end H11
end Go.Proofs.Ytcoaghcmbhogjaa
