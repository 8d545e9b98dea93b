/-
  Plain mathematics of an ICMP message: its eight bytes, what is written, what is read. No program here.
-/
import Derived.Test.YtijipfciimcnpaaDoorMath
import Derived.Test.YtijipfciimcnpaaDoorSMath
namespace Go.Proofs.YtijipfciimcnpaaDoor.I8

/-- the widths of the fields -/
def ws8 : List Nat := [8, 8, 16, 32]
def flds (b : Nat → Nat) : List Nat := [b 0, b 1, b 2 * 256 + b 3, ((b 4 * 256 + b 5) * 256 + b 6) * 256 + b 7]
def bl (b : Nat → Nat) : List Nat := [b 0, b 1, b 2, b 3, b 4, b 5, b 6, b 7]
theorem pack_bl (b : Nat → Nat) : M.packN 0 ws8 (flds b) = M.numB (bl b) := by
  simp only [ws8, flds, bl, M.packN, M.numB, List.foldl_cons, List.foldl_nil]
  omega
theorem fit_flds (b : Nat → Nat) (h : ∀ i, i < 8 → b i < 256) : M.Fit ws8 (flds b) := by
  simp only [ws8, flds, M.Fit]
  have h0 := h 0 (by omega)
  have h1 := h 1 (by omega)
  have h2 := h 2 (by omega)
  have h3 := h 3 (by omega)
  have h4 := h 4 (by omega)
  have h5 := h 5 (by omega)
  have h6 := h 6 (by omega)
  have h7 := h 7 (by omega)
  refine ⟨?_, ?_, ?_, ?_, trivial⟩ <;> omega
theorem tot8 : M.tot ws8 = 64 := by decide
theorem fields_bl (b : Nat → Nat) (h : ∀ i, i < 8 → b i < 256) : M.fieldsN 64 (M.numB (bl b)) ws8 = flds b := by
  rw [← pack_bl, ← tot8]
  exact M.fieldsN_packN 0 ws8 (flds b) (fit_flds b h)
theorem lt8 {i : Nat} (h : i < 8) : i = 0 ∨ i = 1 ∨ i = 2 ∨ i = 3 ∨ i = 4 ∨ i = 5 ∨ i = 6 ∨ i = 7 := by omega
theorem getD_ext {l m : List Nat} (hl : l.length = m.length) (h : ∀ i, i < l.length → l.getD i 0 = m.getD i 0) : l = m := by
  refine List.ext_getElem hl (fun i h1 h2 => ?_)
  have := h i h1
  simpa [List.getD, h1, h2] using this
theorem getD_lt (l : List Nat) (h : ∀ x ∈ l, x < 256) (i : Nat) : l.getD i 0 < 256 := by
  by_cases hi : i < l.length
  · simp only [List.getD, List.getElem?_eq_getElem hi, Option.getD_some]; exact h _ (List.getElem_mem hi)
  · simp [List.getD, List.getElem?_eq_none (by omega : l.length ≤ i)]
theorem bl_get (b : Nat → Nat) (i : Nat) (h : i < 8) : (bl b).getD i 0 = b i := by
  rcases lt8 h with rfl | rfl | rfl | rfl | rfl | rfl | rfl | rfl <;> rfl
theorem take8 (l : List Nat) (h : 8 ≤ l.length) : l.take 8 = bl (fun i => l.getD i 0) := by
  refine getD_ext (by simp [bl]; omega) (fun i hi => ?_)
  have hi' : i < 8 := by simp at hi; omega
  rw [bl_get _ _ hi']
  simp [List.getD, hi']
theorem split8 (l : List Nat) (h : 8 ≤ l.length) : l = bl (fun i => l.getD i 0) ++ l.drop 8 := by
  rw [← take8 l h]; exact (List.take_append_drop 8 l).symm
theorem bytes_bl (b : Nat → Nat) (h : ∀ i, i < 8 → b i < 256) : M.bytesN 8 (M.packN 0 ws8 (flds b)) = bl b := by
  rw [pack_bl]
  refine M.bytesN_numB (bl b) (fun x hx => ?_)
  simp only [bl, List.mem_cons, List.not_mem_nil, or_false] at hx
  rcases hx with rfl | rfl | rfl | rfl | rfl | rfl | rfl | rfl <;> exact h _ (by omega)

/-- a message -/
structure M8 where
  v : Int
  t : Int
  c : Int
  r : Int
  d : List Nat
def inB (x m : Int) : Bool := decide (0 ≤ x ∧ x ≤ m)
theorem inB_of (x : Nat) (m : Int) (h : (x : Int) ≤ m) : inB (x : Int) m = true := by simp [inB]; omega
def isV (v : Int) : Bool := decide (v = 4 ∨ v = 6)
def okF (m : M8) : Bool := inB m.t 255 && inB m.c 255 && inB m.r 4294967295
def chk (m : M8) : Nat := if isV m.v then (if okF m then (if 65515 < 8 + m.d.length then 2 else 0) else 82) else 1
theorem chk_zero (m : M8) (h : chk m = 0) : isV m.v = true ∧ okF m = true ∧ 8 + m.d.length ≤ 65515 := by
  unfold chk at h
  split at h
  · split at h
    · split at h
      · cases h
      · exact ⟨by assumption, by assumption, by omega⟩
    · cases h
  · cases h
theorem okF_nat {m : M8} (h : okF m = true) : ∃ t c r : Nat, m.t = t ∧ m.c = c ∧ m.r = r ∧ t < 256 ∧ c < 256 ∧ r < 4294967296 := by
  simp only [okF, inB, Bool.and_eq_true, decide_eq_true_eq] at h
  exact ⟨m.t.toNat, m.c.toNat, m.r.toNat, by omega, by omega, by omega, by omega, by omega, by omega⟩
/-- the eight bytes, with a sum -/
def hd (m : M8) (s : Nat) : List Nat := [m.t.toNat, m.c.toNat, s / 256, s % 256, m.r.toNat / 16777216, m.r.toNat / 65536 % 256, m.r.toNat / 256 % 256, m.r.toNat % 256]
theorem hd_len (m : M8) (s : Nat) : (hd m s).length = 8 := rfl
theorem hd_256 (m : M8) (s : Nat) (h : okF m = true) (hs : s ≤ 65535) : ∀ x ∈ hd m s, x < 256 := by
  obtain ⟨t, c, r, ht, hc, hr, h1, h2, h3⟩ := okF_nat h
  intro x hx
  simp only [hd, ht, hc, hr, Int.toNat_natCast, List.mem_cons, List.not_mem_nil, or_false] at hx
  rcases hx with rfl | rfl | rfl | rfl | rfl | rfl | rfl | rfl <;> omega
theorem wv_hd (m : M8) (s : Nat) : S.wv false (hd m s) = S.wv false (hd m 0) + s := by
  simp only [hd, S.wv]
  omega
theorem par_even (n : Nat) (h : n % 2 = 0) : S.par false n = false := by unfold S.par; rw [if_neg (by omega)]
theorem wv_mid (p d : List Nat) (m : M8) (s : Nat) (hp : p.length % 2 = 0) : S.wv false (p ++ (hd m s ++ d)) = S.wv false (p ++ (hd m 0 ++ d)) + s := by
  have e : ∀ s, S.wv false (p ++ (hd m s ++ d)) = S.wv false p + (S.wv false (hd m s) + S.wv (S.par false 8) d) := by
    intro s
    rw [S.wv_append, par_even _ hp, S.wv_append, hd_len]
  rw [e s, e 0, wv_hd m s]
  omega
/-- what goes into the sum beside -/
def sm (m : M8) (p : List Nat) : Nat := 65535 - S.fold (S.wv false (p ++ (hd m 0 ++ m.d)))
theorem sm_le (m : M8) (p : List Nat) : sm m p ≤ 65535 := Nat.sub_le _ _
def ser (m : M8) (p : List Nat) : List Nat := hd m (sm m p) ++ m.d
theorem ser_len (m : M8) (p : List Nat) : (ser m p).length = 8 + m.d.length := by simp [ser, hd_len]
theorem ser_256 (m : M8) (p : List Nat) (h : okF m = true) (hd' : ∀ x ∈ m.d, x < 256) : ∀ x ∈ ser m p, x < 256 := by
  intro x hx
  rcases List.mem_append.1 hx with hx | hx
  · exact hd_256 m _ h (sm_le m p) x hx
  · exact hd' x hx
theorem ser_good (m : M8) (p : List Nat) (hp : p.length % 2 = 0) : S.fold (S.wv false (p ++ ser m p)) = 65535 := by
  unfold ser
  rw [wv_mid p m.d m _ hp]
  exact S.own_good _
def sE (m : M8) (six : Bool) : Nat := if chk m = 0 then (if m.v = 6 ∧ six = false then 20 else 0) else chk m
def pE (v : Int) (six : Bool) (p bs : List Nat) : Nat :=
  if 65515 < bs.length then 2 else if isV v then (if v = 6 ∧ six = false then 20 else if bs.length < 8 then 80 else if S.fold (S.wv false (p ++ bs)) = 65535 then 0 else 81) else 1
def pM (v : Int) (bs : List Nat) : M8 := ⟨v, (bs.getD 0 0 : Nat), (bs.getD 1 0 : Nat), ((((bs.getD 4 0 * 256 + bs.getD 5 0) * 256 + bs.getD 6 0) * 256 + bs.getD 7 0 : Nat) : Int), bs.drop 8⟩
theorem pM_ok (v : Int) (bs : List Nat) (h : ∀ x ∈ bs, x < 256) : okF (pM v bs) = true := by
  have h0 := getD_lt bs h 0
  have h1 := getD_lt bs h 1
  have h4 := getD_lt bs h 4
  have h5 := getD_lt bs h 5
  have h6 := getD_lt bs h 6
  have h7 := getD_lt bs h 7
  have a1 : inB (pM v bs).t 255 = true := inB_of (bs.getD 0 0) 255 (by omega)
  have a2 : inB (pM v bs).c 255 = true := inB_of (bs.getD 1 0) 255 (by omega)
  have a3 : inB (pM v bs).r 4294967295 = true := inB_of (((bs.getD 4 0 * 256 + bs.getD 5 0) * 256 + bs.getD 6 0) * 256 + bs.getD 7 0) 4294967295 (by omega)
  unfold okF
  rw [a1, a2, a3]
  rfl
theorem pE_zero {v : Int} {six : Bool} {p bs : List Nat} (h : pE v six p bs = 0) : bs.length ≤ 65515 ∧ isV v = true ∧ ¬ (v = 6 ∧ six = false) ∧ 8 ≤ bs.length ∧ S.fold (S.wv false (p ++ bs)) = 65535 := by
  unfold pE at h
  split at h
  · cases h
  · split at h
    · split at h
      · cases h
      · split at h
        · cases h
        · split at h
          · exact ⟨by omega, by assumption, by assumption, by omega, by assumption⟩
          · cases h
    · cases h
theorem pM_chk {v : Int} {six : Bool} {p bs : List Nat} (h : pE v six p bs = 0) (h256 : ∀ x ∈ bs, x < 256) : chk (pM v bs) = 0 := by
  obtain ⟨h1, h2, _, h4, _⟩ := pE_zero h
  have e : (pM v bs).v = v := rfl
  have e2 : (pM v bs).d = bs.drop 8 := rfl
  unfold chk
  rw [e, if_pos h2, if_pos (pM_ok v bs h256), e2, if_neg (by rw [List.length_drop]; omega)]
theorem pM_sE {v : Int} {six : Bool} {p bs : List Nat} (h : pE v six p bs = 0) (h256 : ∀ x ∈ bs, x < 256) : sE (pM v bs) six = 0 := by
  obtain ⟨_, _, h3, _, _⟩ := pE_zero h
  have e : (pM v bs).v = v := rfl
  unfold sE
  rw [if_pos (pM_chk h h256), e, if_neg h3]
/-- what was written is read as it was -/
theorem pM_ser (m : M8) (p : List Nat) (h : okF m = true) : pM m.v (ser m p) = m := by
  obtain ⟨t, c, r, ht, hc, hr, h1, h2, h3⟩ := okF_nat h
  obtain ⟨v, t', c', r', d⟩ := m
  simp only at ht hc hr
  subst ht hc hr
  simp only [pM, ser, hd, List.cons_append, List.nil_append, List.getD, List.getElem?_cons_zero, List.getElem?_cons_succ, Option.getD_some, List.drop_succ_cons, List.drop_zero, Int.toNat_natCast, M8.mk.injEq, true_and, and_true]
  omega
theorem pE_ser (m : M8) (six : Bool) (p : List Nat) (hp : p.length % 2 = 0) (h : sE m six = 0) : pE m.v six p (ser m p) = 0 := by
  unfold sE at h
  split at h
  · rename_i hc
    obtain ⟨h1, h2, h3⟩ := chk_zero m hc
    unfold pE
    have h6 : ¬ (m.v = 6 ∧ six = false) := by
      intro hh
      rw [if_pos hh] at h
      cases h
    rw [ser_len, if_neg (by omega), if_pos h1, if_neg h6, if_neg (by omega), if_pos (ser_good m p hp)]
  · rename_i hc
    exact absurd h hc
/-- bytes are the written head with their own sum -/
theorem own_form (v : Int) (bs : List Nat) (h8 : 8 ≤ bs.length) (h256 : ∀ x ∈ bs, x < 256) : bs = hd (pM v bs) (bs.getD 2 0 * 256 + bs.getD 3 0) ++ bs.drop 8 := by
  have e := split8 bs h8
  have h0 := getD_lt bs h256 0
  have h1 := getD_lt bs h256 1
  have h2 := getD_lt bs h256 2
  have h3 := getD_lt bs h256 3
  have h4 := getD_lt bs h256 4
  have h5 := getD_lt bs h256 5
  have h6 := getD_lt bs h256 6
  have h7 := getD_lt bs h256 7
  have e2 : hd (pM v bs) (bs.getD 2 0 * 256 + bs.getD 3 0) = bl (fun i => bs.getD i 0) := by
    unfold hd pM bl
    simp only [Int.toNat_natCast]
    generalize bs.getD 0 0 = b0 at *
    generalize bs.getD 1 0 = b1 at *
    generalize bs.getD 2 0 = b2 at *
    generalize bs.getD 3 0 = b3 at *
    generalize bs.getD 4 0 = b4 at *
    generalize bs.getD 5 0 = b5 at *
    generalize bs.getD 6 0 = b6 at *
    generalize bs.getD 7 0 = b7 at *
    congr 1
    congr 1
    congr 1
    · omega
    congr 1
    · omega
    congr 1
    · omega
    congr 1
    · omega
    congr 1
    · omega
    congr 1
    omega
  rw [e2]
  exact e
/-- what is read is written as it was, but for a sum of ffff -/
theorem back (v : Int) (p bs : List Nat) (hp : p.length % 2 = 0) (h8 : 8 ≤ bs.length) (h256 : ∀ x ∈ bs, x < 256) (hg : S.fold (S.wv false (p ++ bs)) = 65535) :
    sm (pM v bs) p = bs.getD 2 0 * 256 + bs.getD 3 0 ∨ (sm (pM v bs) p = 0 ∧ bs.getD 2 0 = 255 ∧ bs.getD 3 0 = 255) := by
  have h2 := getD_lt bs h256 2
  have h3 := getD_lt bs h256 3
  have e := own_form v bs h8 h256
  obtain ⟨s, hs⟩ : ∃ s, s = bs.getD 2 0 * 256 + bs.getD 3 0 := ⟨_, rfl⟩
  rw [← hs] at e
  have e3 : S.wv false (p ++ bs) = S.wv false (p ++ (hd (pM v bs) 0 ++ bs.drop 8)) + s := by
    rw [← wv_mid p (bs.drop 8) (pM v bs) s hp, ← e]
  rw [e3] at hg
  have hd' : (pM v bs).d = bs.drop 8 := rfl
  unfold sm
  rw [hd', ← hs]
  generalize S.wv false (p ++ (hd (pM v bs) 0 ++ bs.drop 8)) = V at *
  obtain ⟨hz, hm⟩ := (S.fold_full _).1 hg
  have fm := S.fold_mod V
  have fl := S.fold_le V
  have fz := S.fold_zero V
  generalize S.fold V = F at *
  omega
end Go.Proofs.YtijipfciimcnpaaDoor.I8
