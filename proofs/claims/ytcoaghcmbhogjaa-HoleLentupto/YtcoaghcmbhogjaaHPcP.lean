/-
  Pieces that belong together, in numbers: data cut into pieces, some of them put.
-/
import Derived.Test.YtcoaghcmbhogjaaHNew
namespace Go.Proofs.Ytcoaghcmbhogjaa
namespace H11

/-- where the k-th piece begins -/
def ofs (ns : List Nat) (k : Nat) : Nat := (ns.take k).sum
structure Cut (ns : List Nat) (N : Nat) : Prop where
  sum : ns.sum = N
  pos : ∀ k, k < ns.length → 1 ≤ ns.getD k 0
  m8 : ∀ k, k + 1 < ns.length → ns.getD k 0 % 8 = 0
theorem ofs_succ (ns : List Nat) (k : Nat) (h : k < ns.length) : ofs ns (k + 1) = ofs ns k + ns.getD k 0 := by
  unfold ofs
  rw [List.take_add_one, List.sum_append]
  simp [List.getD, h]
theorem ofs_zero (ns : List Nat) : ofs ns 0 = 0 := by simp [ofs]
theorem ofs_len (ns : List Nat) : ofs ns ns.length = ns.sum := by simp [ofs]
theorem ofs_mono (ns : List Nat) (j k : Nat) (h : j ≤ k) : ofs ns j ≤ ofs ns k := by
  induction k with
  | zero => obtain rfl : j = 0 := by omega
            exact Nat.le_refl _
  | succ k ih =>
    by_cases e : j = k + 1
    · rw [e]; exact Nat.le_refl _
    · have := ih (by omega)
      by_cases hk : k < ns.length
      · rw [ofs_succ ns k hk]; omega
      · unfold ofs at *
        rw [List.take_of_length_le (show ns.length ≤ k + 1 by omega)]
        rw [List.take_of_length_le (show ns.length ≤ k by omega)] at this
        exact this
section
variable {ns : List Nat} {N : Nat} (hc : Cut ns N)
include hc
theorem Cut.le (k : Nat) : ofs ns k ≤ N := by
  by_cases h : k ≤ ns.length
  · have := ofs_mono ns k ns.length h
    rw [ofs_len, hc.sum] at this
    exact this
  · unfold ofs
    rw [List.take_of_length_le (by omega), hc.sum]
    exact Nat.le_refl _
theorem Cut.last (k : Nat) (h : k + 1 = ns.length) : ofs ns (k + 1) = N := by rw [h, ofs_len, hc.sum]
theorem Cut.o8 (k : Nat) (h : k < ns.length) : ofs ns k % 8 = 0 := by
  induction k with
  | zero => rw [ofs_zero]
  | succ k ih =>
    rw [ofs_succ ns k (by omega)]
    have := ih (by omega)
    have := hc.m8 k h
    omega
theorem Cut.lt (k : Nat) (h : k + 1 < ns.length) : ofs ns (k + 1) < N := by
  have h1 := ofs_succ ns (k + 1) h
  have h2 := hc.pos (k + 1) h
  have h3 := hc.le (k + 1 + 1)
  omega
theorem Cut.cover (i : Nat) (hi : i < N) : ∃ k, k < ns.length ∧ ofs ns k ≤ i ∧ i < ofs ns (k + 1) := by
  have key : ∀ m, m ≤ ns.length → i < ofs ns m → ∃ k, k < m ∧ ofs ns k ≤ i ∧ i < ofs ns (k + 1) := by
    intro m
    induction m with
    | zero => intro _ h; rw [ofs_zero] at h; omega
    | succ m ih =>
      intro hm h
      by_cases h1 : i < ofs ns m
      · obtain ⟨k, a, b, c⟩ := ih (by omega) h1
        exact ⟨k, by omega, b, c⟩
      · exact ⟨m, by omega, by omega, h⟩
  exact key ns.length (Nat.le_refl _) (by rw [ofs_len, hc.sum]; exact hi)
end
theorem Cut.dl {D ns : List Nat} (hc : Cut ns D.length) {k : Nat} (hk : k < ns.length) : ((D.drop (ofs ns k)).take (ns.getD k 0)).length = ns.getD k 0 := by
  have h1 := hc.le (k + 1)
  rw [ofs_succ ns k hk] at h1
  simp only [List.length_take, List.length_drop]
  omega
theorem ofs_one {ns : List Nat} {i j k : Nat} (h1 : ofs ns k ≤ i) (h2 : i < ofs ns (k + 1)) (h3 : ofs ns j ≤ i) (h4 : i < ofs ns (j + 1)) : j = k := by
  rcases Nat.lt_trichotomy j k with h | h | h
  · have := ofs_mono ns (j + 1) k h; omega
  · exact h
  · have := ofs_mono ns (k + 1) j h; omega

theorem fN_none {o e hi : Nat} (hoe : o < e) : ∀ {gs : List (Nat × Nat)} {lo : Nat}, Ris lo gs hi → (∀ i, o ≤ i → i < e → ¬ inG gs i) → fN o e gs = 0
  | [], _, _, _ => rfl
  | g :: r, lo, ⟨h1, h2, h3, h4⟩, h => by
    unfold fN
    by_cases a1 : g.2 ≤ o
    · rw [if_pos a1]; exact fN_none hoe h4 (fun i b1 b2 k => h i b1 b2 (in_cons.2 (.inr k)))
    · rw [if_neg a1]
      by_cases a2 : e ≤ g.1
      · rw [if_pos a2]
      · exact absurd (in_cons.2 (.inl (by omega))) (h (max g.1 o) (by omega) (by omega))
theorem fN_all {o e hi : Nat} (hoe : o < e) : ∀ {gs : List (Nat × Nat)} {lo : Nat}, Ris lo gs hi → (∀ i, o ≤ i → i < e → inG gs i) → fN o e gs = e - o
  | [], _, _, h => absurd (h o (Nat.le_refl _) hoe) in_nil
  | g :: r, lo, ⟨h1, h2, h3, h4⟩, h => by
    unfold fN
    by_cases a1 : g.2 ≤ o
    · rw [if_pos a1]
      refine fN_all hoe h4 (fun i b1 b2 => ?_)
      rcases in_cons.1 (h i b1 b2) with k | k
      · omega
      · exact k
    · rw [if_neg a1]
      have c1 : g.1 ≤ o := by
        rcases in_cons.1 (h o (Nat.le_refl _) hoe) with k | k
        · exact k.1
        · have := (h4.out k).1; omega
      have c2 : e ≤ g.2 := by
        apply Classical.byContradiction
        intro k
        rcases in_cons.1 (h g.2 (by omega) (by omega)) with k2 | k2
        · omega
        · have := (h4.out k2).1; omega
      have c3 := fN_le (o := o) (e := e) (Nat.le_of_lt hoe) h4
      rw [if_neg (by omega)]
      omega

/-- which of the pieces have come -/
structure PSt (D ns : List Nat) (C : Nat → Bool) (s : HS) : Prop where
  inv : Inv s
  mx : s.mx = 65535
  en : s.en = if C (ns.length - 1) = true then D.length else 0
  hold : ∀ k i, k < ns.length → ofs ns k ≤ i → i < ofs ns (k + 1) → (inG s.gp i ↔ C k = false)
  bytes : ∀ k i, k < ns.length → C k = true → ofs ns k ≤ i → i < ofs ns (k + 1) → s.bs.getD i 0 = D.getD i 0
  bl : s.bs.length ≤ D.length
  bl2 : ∀ k, k < ns.length → C k = true → ofs ns (k + 1) ≤ s.bs.length
  tk : ∀ k, k < ns.length → ((ofs ns k, ns.getD k 0, decide (k + 1 < ns.length)) ∈ s.tk ↔ C k = true)

def updB (C : Nat → Bool) (k j : Nat) : Bool := if j = k then true else C j
theorem updB_same (C : Nat → Bool) (k : Nat) : updB C k k = true := if_pos rfl
theorem updB_other (C : Nat → Bool) (k j : Nat) (h : j ≠ k) : updB C k j = C j := if_neg h

theorem PSt.start (D ns : List Nat) (hc : Cut ns D.length) (hD : D.length ≤ 65535) : PSt D ns (fun _ => false) (nw 65535) where
  inv := nw_inv 65535 (by omega) (by omega)
  mx := rfl
  en := rfl
  hold := by
    intro k i hk h1 h2
    have := hc.le (k + 1)
    exact ⟨fun _ => rfl, fun _ => ⟨(0, 65535), by simp [nw], Nat.zero_le _, by simp only; omega⟩⟩
  bytes := by intro k i _ h; cases h
  bl := by simp [nw]
  bl2 := by intro k _ h; cases h
  tk := by intro k _; simp [nw]

section
variable {D ns : List Nat} {C : Nat → Bool} {s : HS} (h : PSt D ns C s) (hc : Cut ns D.length) (hD : D.length ≤ 65535) {k : Nat} (hk : k < ns.length)
include h hc hD hk
theorem PSt.okk : Ok s (ofs ns k) (ns.getD k 0) (decide (k + 1 < ns.length)) where
  n1 := hc.pos k hk
  fit := by have h1 := hc.le (k + 1); rw [ofs_succ ns k hk] at h1; rw [h.mx]; omega
  a := by
    intro h1 _
    rw [h.en] at h1 ⊢
    split at h1
    · rename_i c
      rw [if_pos c, ← ofs_succ ns k hk]; exact hc.le _
    · omega
  b := by
    intro h1 h2
    have h3 : k + 1 = ns.length := by simp at h2; omega
    rw [h.en] at h1 ⊢
    split at h1
    · rename_i c
      rw [if_pos c, ← ofs_succ ns k hk]; exact hc.last k h3
    · omega
  c := by
    intro _ h2
    have h3 : k + 1 = ns.length := by simp at h2; omega
    rw [← ofs_succ ns k hk, hc.last k h3]; exact h.bl
theorem PSt.rf0 : rf s (ofs ns k : Int) (ns.getD k 0) (decide (k + 1 < ns.length)) = 0 := by
  have hok := h.okk hc hD hk
  have h1 := hc.o8 k hk
  have h2 := hok.fit
  have h3 := hok.n1
  have h4 := h.mx
  unfold rf
  rw [if_neg (by omega), if_neg, if_neg (by omega), if_neg (by omega), if_neg, if_neg, if_neg]
  · rintro ⟨a, b, c⟩
    have := hok.c a b
    omega
  · rintro ⟨a, b, c⟩
    have := hok.b a b
    omega
  · rintro ⟨a, b, c⟩
    have := hok.a a b
    omega
  · rintro (a | a | ⟨a, b⟩)
    · omega
    · rw [show ((ofs ns k : Nat) : Int).tmod 8 = ((ofs ns k % 8 : Nat) : Int) from rfl] at a
      omega
    · have h5 := hc.m8 k (by simpa using a)
      rw [show ((ns.getD k 0 : Nat) : Int).tmod 8 = ((ns.getD k 0 % 8 : Nat) : Int) from rfl] at b
      omega
omit hD in
theorem PSt.cnt : fN (ofs ns k) (ofs ns k + ns.getD k 0) s.gp = if C k = true then 0 else ns.getD k 0 := by
  have h1 := hc.pos k hk
  have hs := ofs_succ ns k hk
  by_cases c : C k = true
  · rw [if_pos c]
    refine fN_none (by omega) h.inv.ris (fun i a b q => ?_)
    have := (h.hold k i hk a (by omega)).1 q
    rw [c] at this
    cases this
  · rw [if_neg c, fN_all (by omega) h.inv.ris (fun i a b => (h.hold k i hk a (by omega)).2 (by simpa using c))]
    omega
open Classical in
theorem PSt.step (h8 : ∀ x, x ∈ D → x < 256) : PSt D ns (updB C k) (pt s (ofs ns k) ((D.drop (ofs ns k)).take (ns.getD k 0)) (decide (k + 1 < ns.length))) ∧
    (D.drop (ofs ns k)).take (ns.getD k 0) = ((pt s (ofs ns k) ((D.drop (ofs ns k)).take (ns.getD k 0)) (decide (k + 1 < ns.length))).bs.drop (ofs ns k)).take (ns.getD k 0) := by
  have hok := h.okk hc hD hk
  have hdl := hc.dl hk
  have hs := ofs_succ ns k hk
  have hle := hc.le (k + 1)
  obtain ⟨d, hd⟩ : ∃ d, d = (D.drop (ofs ns k)).take (ns.getD k 0) := ⟨_, rfl⟩
  obtain ⟨n, hn⟩ : ∃ n, n = ns.getD k 0 := ⟨_, rfl⟩
  obtain ⟨o, ho⟩ : ∃ o, o = ofs ns k := ⟨_, rfl⟩
  rw [← hn, ← ho] at hd hdl hok hs ⊢
  rw [← hd] at hdl ⊢
  have hdg : ∀ i, o ≤ i → i < o + n → d.getD (i - o) 0 = D.getD i 0 := by
    intro i a b
    rw [hd]
    simp only [List.getD, List.getElem?_take, List.getElem?_drop]
    rw [if_pos (by omega), show o + (i - o) = i by omega]
  have hd8 : ∀ x, x ∈ d → x < 256 := by intro x hx; rw [hd] at hx; exact h8 x (List.mem_of_mem_drop (List.mem_of_mem_take hx))
  obtain ⟨p1, p2, _⟩ := pt_inv h.inv (o := o) (d := d) (more := decide (k + 1 < ns.length)) (by rw [hdl]; exact hok) hd8
  obtain ⟨s', hs'⟩ : ∃ s', s' = pt s o d (decide (k + 1 < ns.length)) := ⟨_, rfl⟩
  rw [← hs'] at p1 p2 ⊢
  rw [hdl] at p2
  have hbl : s'.bs.length = max s.bs.length (o + n) := by rw [hs', pt_bs_len, hdl]
  have hget : ∀ i, s'.bs.getD i 0 = if (o ≤ i ∧ i < o + n) ∧ inG s.gp i then d.getD (i - o) 0 else (rB s.bs (o + n)).getD i 0 := by
    intro i
    rw [hs']
    show (fB o (o + d.length) d s.gp (rB s.bs (o + d.length))).getD i 0 = _
    rw [fB_get h.inv.ris (by rw [rB_len]; omega), hdl]
  have hrb : ∀ i, i < s.bs.length → (rB s.bs (o + n)).getD i 0 = s.bs.getD i 0 := by
    intro i hi
    simp only [rB, List.getD]
    rw [List.getElem?_append_left hi]
  have hmine : ∀ i, o ≤ i → i < o + n → s'.bs.getD i 0 = D.getD i 0 := by
    intro i a b
    rw [hget i]
    by_cases c : C k = true
    · rw [if_neg, hrb i]
      · exact h.bytes k i hk c (by omega) (by omega)
      · have := h.bl2 k hk c; omega
      · rintro ⟨_, q⟩
        have := (h.hold k i hk (by omega) (by omega)).1 q
        rw [c] at this; cases this
    · rw [if_pos ⟨⟨a, b⟩, (h.hold k i hk (by omega) (by omega)).2 (by simpa using c)⟩]
      exact hdg i a b
  have hen : s'.en = if updB C k (ns.length - 1) = true then D.length else 0 := by
    rw [hs']
    show (if decide (k + 1 < ns.length) = true then s.en else o + d.length) = _
    rw [hdl]
    by_cases c : k + 1 < ns.length
    · rw [decide_eq_true c, if_pos rfl, h.en, updB_other _ _ _ (by omega)]
    · have e1 : ns.length - 1 = k := by omega
      rw [decide_eq_false c, if_neg (by simp), e1, updB_same, if_pos rfl, ← hs]
      exact hc.last k (by omega)
  have hbd : ∀ j i, j < ns.length → i < ofs ns (j + 1) → i < s'.bd := by
    intro j i _ hi
    have h1 := hc.le (j + 1)
    have hm : s'.mx = 65535 := by rw [hs']; exact h.mx
    unfold HS.bd
    rw [hen, hm]
    by_cases c : updB C k (ns.length - 1) = true
    · rw [if_pos c, if_pos (by omega)]; omega
    · rw [if_neg c, if_neg (by omega)]; omega
  refine ⟨⟨p1, by rw [hs']; exact h.mx, hen, ?_, ?_, ?_, ?_, ?_⟩, ?_⟩
  · intro j i hj a b
    rw [p2 i (hbd j i hj b), h.hold j i hj a b]
    by_cases c : j = k
    · subst c
      rw [updB_same]
      exact ⟨fun q => absurd (show o ≤ i ∧ i < o + n by omega) q.2, fun q => by cases q⟩
    · rw [updB_other _ _ _ c]
      refine ⟨fun q => q.1, fun q => ⟨q, fun q2 => c ?_⟩⟩
      exact (ofs_one (k := j) (j := k) a b (by omega) (by omega)).symm
  · intro j i hj cj a b
    by_cases c : j = k
    · subst c
      exact hmine i (by omega) (by omega)
    · rw [updB_other _ _ _ c] at cj
      have h1 := h.bl2 j hj cj
      rw [hget i, if_neg, hrb i (by omega)]
      · exact h.bytes j i hj cj a b
      · rintro ⟨q, _⟩
        exact c (ofs_one (k := j) (j := k) a b (by omega) (by omega)).symm
  · rw [hbl]; have := h.bl; omega
  · intro j hj cj
    rw [hbl]
    by_cases c : j = k
    · subst c; omega
    · rw [updB_other _ _ _ c] at cj
      have := h.bl2 j hj cj
      omega
  · intro j hj
    rw [hs']
    show _ ∈ (o, d.length, decide (k + 1 < ns.length)) :: s.tk ↔ _
    rw [List.mem_cons, h.tk j hj, hdl]
    by_cases c : j = k
    · subst c
      rw [updB_same, ho, hn]
      simp
    · rw [updB_other _ _ _ c]
      constructor
      · rintro (q | q)
        · exfalso
          rw [Prod.mk.injEq] at q
          obtain ⟨q1, _⟩ := q
          have h1 := hc.pos j hj
          have h2 := ofs_succ ns j hj
          have h3 := hok.n1
          exact c (ofs_one (ns := ns) (i := o) (k := k) (j := j) (by omega) (by omega) (by omega) (by omega))
        · exact q
      · exact fun q => .inr q
  · have hl1 : (s'.bs.drop o).take n = (List.range n).map (fun i => D.getD (o + i) 0) := by
      apply List.ext_getElem?
      intro i
      by_cases c : i < n
      · have := hmine (o + i) (by omega) (by omega)
        have h1 : o + i < s'.bs.length := by omega
        simp only [List.getD, List.getElem?_eq_getElem h1, Option.getD_some] at this
        simp only [List.getElem?_take, List.getElem?_drop, List.getElem?_map, List.getElem?_range c, if_pos c, List.getElem?_eq_getElem h1, Option.map_some, List.getD]
        rw [this]
      · rw [List.getElem?_eq_none (by rw [List.length_take]; omega), List.getElem?_eq_none (by simp; omega)]
    have hl2 : d = (List.range n).map (fun i => D.getD (o + i) 0) := by
      rw [hd]
      apply List.ext_getElem?
      intro i
      by_cases c : i < n
      · have h1 : o + i < D.length := by omega
        simp only [List.getElem?_take, List.getElem?_drop, List.getElem?_map, List.getElem?_range c, if_pos c, List.getElem?_eq_getElem h1, Option.map_some, List.getD, Option.getD_some]
      · rw [List.getElem?_eq_none (by rw [List.length_take]; omega), List.getElem?_eq_none (by simp; omega)]
    rw [hl1, ← hl2]
end
theorem PSt.whole {D ns : List Nat} {C : Nat → Bool} {s : HS} (h : PSt D ns C s) (hc : Cut ns D.length) (hD1 : 1 ≤ D.length) (hl : 0 < ns.length) : (0 < s.en ∧ s.gp = []) ↔ ∀ k, k < ns.length → C k = true := by
  constructor
  · rintro ⟨_, h2⟩ k hk
    apply Classical.byContradiction
    intro c
    have h3 := hc.pos k hk
    have := (h.hold k (ofs ns k) hk (Nat.le_refl _) (by rw [ofs_succ ns k hk]; omega)).2 (by simpa using c)
    rw [h2] at this
    exact in_nil this
  · intro hall
    have hen : s.en = D.length := by rw [h.en, if_pos (hall _ (by omega))]
    refine ⟨by omega, ?_⟩
    cases hg : s.gp with
    | nil => rfl
    | cons g r =>
      exfalso
      have hr := h.inv.ris
      rw [hg] at hr
      have hbd : s.bd = D.length := by unfold HS.bd; rw [if_pos (by omega), hen]
      obtain ⟨_, h2, h3, _⟩ := hr
      obtain ⟨k, k1, k2, k3⟩ := hc.cover g.1 (by omega)
      have := (h.hold k g.1 k1 k2 k3).1 (by rw [hg]; exact in_cons.2 (.inl ⟨Nat.le_refl _, h2⟩))
      rw [hall k k1] at this
      cases this
theorem PSt.all {D ns : List Nat} {C : Nat → Bool} {s : HS} (h : PSt D ns C s) (hc : Cut ns D.length) (hl : 0 < ns.length) (hall : ∀ k, k < ns.length → C k = true) : s.bs = D := by
  have h1 := h.bl
  have h2 := h.bl2 (ns.length - 1) (by omega) (hall _ (by omega))
  rw [hc.last (ns.length - 1) (by omega)] at h2
  apply List.ext_getElem (by omega)
  intro i a b
  obtain ⟨k, k1, k2, k3⟩ := hc.cover i b
  have := h.bytes k i k1 (hall k k1) k2 k3
  simpa [List.getD, a, b] using this
end H11
end Go.Proofs.Ytcoaghcmbhogjaa
