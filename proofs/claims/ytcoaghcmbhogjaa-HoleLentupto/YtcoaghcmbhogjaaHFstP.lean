/-
  HoleFirst in numbers: the pieces that were taken, in their order: of each byte the first that came stands.
-/
import Derived.Test.YtcoaghcmbhogjaaHNew
namespace Go.Proofs.Ytcoaghcmbhogjaa
namespace H11

/-- a piece that was taken -/
structure TP where
  o : Nat
  d : List Nat
  more : Bool
def TP.cov (p : TP) (i : Nat) : Bool := decide (p.o ≤ i ∧ i < p.o + p.d.length)

structure FSt (T : List TP) (s : HS) : Prop where
  inv : Inv s
  hold : ∀ i, i < s.bd → (inG s.gp i ↔ ∀ p, p ∈ T → p.cov i = false)
  bl : ∀ p, p ∈ T → p.o + p.d.length ≤ s.bs.length
  first : ∀ i p, T.find? (fun p => p.cov i) = some p → s.bs.getD i 0 = p.d.getD (i - p.o) 0
  en : s.en = match T.find? (fun p => !p.more) with | some p => p.o + p.d.length | none => 0
  pos : ∀ p, p ∈ T → 1 ≤ p.d.length
  nil : T = [] → s.bs = []

theorem FSt.start (m : Nat) (h1 : 1 ≤ m) (h2 : m ≤ 65535) : FSt [] (nw m) where
  inv := nw_inv m h1 h2
  hold := by
    intro i hi
    exact ⟨fun _ p hp => by simp at hp, fun _ => ⟨(0, m), by simp [nw], Nat.zero_le _, by simpa [nw, HS.bd] using hi⟩⟩
  bl := by simp
  first := by simp
  en := by simp [nw]
  pos := by simp
  nil := fun _ => rfl

theorem pt_bd_le {s : HS} {o : Nat} {d : List Nat} {more : Bool} (hok : Ok s o d.length more) : (pt s o d more).bd ≤ s.bd := by
  have hf := hok.fit
  have hn := hok.n1
  unfold HS.bd
  show (if 0 < (if more = true then s.en else o + d.length) then (if more = true then s.en else o + d.length) else s.mx) ≤ _
  cases more with
  | true => simp
  | false =>
    simp only [Bool.false_eq_true, if_false]
    rw [if_pos (by omega)]
    by_cases k : 0 < s.en
    · rw [if_pos k]; exact Nat.le_of_eq (hok.b k rfl)
    · rw [if_neg k]; exact hf

theorem fN_all' {o e hi : Nat} (hoe : o < e) : ∀ {gs : List (Nat × Nat)} {lo : Nat}, Ris lo gs hi → (∀ i, o ≤ i → i < e → inG gs i) → fN o e gs = e - o
  | [], _, _, h => absurd (h o (Nat.le_refl _) hoe) in_nil
  | g :: r, lo, ⟨h1, h2, h3, h4⟩, h => by
    unfold fN
    by_cases a1 : g.2 ≤ o
    · rw [if_pos a1]
      refine fN_all' hoe h4 (fun i b1 b2 => ?_)
      rcases in_cons.1 (h i b1 b2) with k | k
      · omega
      · exact k
    · rw [if_neg a1]
      have c1 : g.1 ≤ o := by
        rcases in_cons.1 (h o (Nat.le_refl _) hoe) with k | k
        · exact k.1
        · have := (h4.out k).1; omega
      have c2 : e ≤ g.2 := by
        apply Classical.byContradiction
        intro k
        rcases in_cons.1 (h g.2 (by omega) (by omega)) with k2 | k2
        · omega
        · have := (h4.out k2).1; omega
      have c3 := fN_le (o := o) (e := e) (Nat.le_of_lt hoe) h4
      rw [if_neg (by omega)]
      omega

open Classical in
theorem FSt.step {T : List TP} {s : HS} (h : FSt T s) {o : Nat} {d : List Nat} {more : Bool} (hok : Ok s o d.length more) (h8 : ∀ x, x ∈ d → x < 256) : FSt (T ++ [⟨o, d, more⟩]) (pt s o d more) := by
  have hn := hok.n1
  obtain ⟨p1, p2, _⟩ := pt_inv h.inv hok h8
  have hbl := pt_bs_len s o d more
  have hbdle := pt_bd_le hok
  have hget : ∀ i, (pt s o d more).bs.getD i 0 = if (o ≤ i ∧ i < o + d.length) ∧ inG s.gp i then d.getD (i - o) 0 else (rB s.bs (o + d.length)).getD i 0 := by
    intro i
    show (fB o (o + d.length) d s.gp (rB s.bs (o + d.length))).getD i 0 = _
    rw [fB_get h.inv.ris (by rw [rB_len]; omega)]
  have hrb : ∀ i, i < s.bs.length → (rB s.bs (o + d.length)).getD i 0 = s.bs.getD i 0 := by
    intro i hi
    simp only [rB, List.getD]
    rw [List.getElem?_append_left hi]
  have hbs := h.inv.bl
  refine ⟨p1, ?_, ?_, ?_, ?_, ?_, fun q => by simp at q⟩
  · intro i hi
    rw [p2 i hi, h.hold i (by omega)]
    constructor
    · rintro ⟨q1, q2⟩ p hp
      rcases List.mem_append.1 hp with k | k
      · exact q1 p k
      · simp only [List.mem_singleton] at k
        subst k
        exact decide_eq_false q2
    · intro q
      refine ⟨fun p hp => q p (List.mem_append.2 (.inl hp)), ?_⟩
      have := q ⟨o, d, more⟩ (by simp)
      exact of_decide_eq_false this
  · intro p hp
    rw [hbl]
    rcases List.mem_append.1 hp with k | k
    · have := h.bl p k; omega
    · simp only [List.mem_singleton] at k
      subst k
      simp only []
      omega
  · intro i p hp
    rw [List.find?_append] at hp
    cases hf : T.find? (fun p => p.cov i) with
    | some q =>
      rw [hf] at hp
      simp only [Option.some_or, Option.some.injEq] at hp
      subst hp
      have hq := List.mem_of_find?_eq_some hf
      have hc : q.cov i = true := by have := List.find?_some hf; exact this
      have hc2 := of_decide_eq_true hc
      have hb2 := h.bl q hq
      rw [hget i, if_neg, hrb i (by omega)]
      · exact h.first i q hf
      · rintro ⟨_, k⟩
        have := (h.hold i (by omega)).1 k q hq
        rw [hc] at this
        cases this
    | none =>
      rw [hf] at hp
      simp only [Option.none_or] at hp
      have hm := List.mem_of_find?_eq_some hp
      simp only [List.mem_singleton] at hm
      subst hm
      have hc : (TP.cov ⟨o, d, more⟩ i) = true := by have := List.find?_some hp; exact this
      have hc2 : o ≤ i ∧ i < o + d.length := of_decide_eq_true hc
      have hin : inG s.gp i := by
        have hbd : i < s.bd := by
          have h1 := p1.bl
          omega
        refine (h.hold i hbd).2 (fun p hp => ?_)
        have := List.find?_eq_none.1 hf p hp
        simpa using this
      rw [hget i, if_pos ⟨hc2, hin⟩]
  · show (if more = true then s.en else o + d.length) = _
    rw [List.find?_append]
    have hen := h.en
    cases hf : T.find? (fun p => !p.more) with
    | some q =>
      rw [hf] at hen
      simp only [Option.some_or] at hen ⊢
      have hq := List.mem_of_find?_eq_some hf
      have hp := h.pos q hq
      cases more with
      | true => simp; exact hen
      | false =>
        simp only [Bool.false_eq_true, if_false]
        rw [hok.b (by omega) rfl]
        exact hen
    | none =>
      rw [hf] at hen
      simp only [Option.none_or] at hen ⊢
      cases more with
      | true => simp [hen]
      | false => simp
  · intro p hp
    rcases List.mem_append.1 hp with k | k
    · exact h.pos p k
    · simp only [List.mem_singleton] at k
      subst k
      exact hn
/-- when it is whole: each place has the byte of the first piece that covers it -/
theorem FSt.whole {T : List TP} {s : HS} (h : FSt T s) (hw : 0 < s.en ∧ s.gp = []) (i : Nat) (hi : i < s.en) : ∃ p, T.find? (fun p => p.cov i) = some p ∧ s.bs.getD i 0 = p.d.getD (i - p.o) 0 := by
  have hbd : s.bd = s.en := by unfold HS.bd; rw [if_pos hw.1]
  cases hf : T.find? (fun p => p.cov i) with
  | some p => exact ⟨p, rfl, h.first i p hf⟩
  | none =>
    exfalso
    have := (h.hold i (by omega)).2 (fun p hp => by have := List.find?_eq_none.1 hf p hp; simpa using this)
    rw [hw.2] at this
    exact in_nil this
theorem FSt.len {T : List TP} {s : HS} (h : FSt T s) (hw : 0 < s.en ∧ s.gp = []) : s.bs.length = s.en := by
  have hbd : s.bd = s.en := by unfold HS.bd; rw [if_pos hw.1]
  have h1 := h.inv.bl
  apply Classical.byContradiction
  intro c
  have := h.inv.hd s.bs.length (Nat.le_refl _) (by omega)
  rw [hw.2] at this
  exact in_nil this
/-- the first piece of all: one byte that is the last -/
theorem FSt.one {s : HS} (h : FSt [] s) (hm : 1 ≤ s.mx) (b : Nat) (hb : b < 256) : rf s 0 1 false = 0 ∧ fN 0 1 s.gp = 1 ∧ (0 < (pt s 0 [b] false).en ∧ (pt s 0 [b] false).gp = []) ∧ (pt s 0 [b] false).bs = [b] := by
  have hen : s.en = 0 := by have := h.en; simpa using this
  have hbs := h.nil rfl
  have hbd : s.bd = s.mx := by unfold HS.bd; rw [if_neg (by omega)]
  have hok : Ok s 0 [b].length false := ⟨by simp, by simpa using hm, by intro q; omega, by intro q; omega, by intro _ _; rw [hbs]; simp⟩
  have hst := h.step hok (by intro x hx; simp at hx; omega)
  have hin : ∀ i, i < s.bd → inG s.gp i := fun i hi => (h.hold i hi).2 (fun p hp => by simp at hp)
  have hE : (pt s 0 [b] false).en = 1 := by show (if false = true then s.en else 0 + [b].length) = 1; simp
  have hB : (pt s 0 [b] false).bd = 1 := by unfold HS.bd; rw [hE]; rfl
  have hg : (pt s 0 [b] false).gp = [] := by
    cases hg : (pt s 0 [b] false).gp with
    | nil => rfl
    | cons g r =>
      exfalso
      have hr := hst.inv.ris
      rw [hg, hB] at hr
      obtain ⟨_, h2, h3, _⟩ := hr
      have h0 : g.1 = 0 := by omega
      have := (hst.hold 0 (by rw [hB]; omega)).1 (by rw [hg]; exact in_cons.2 (.inl ⟨by omega, by omega⟩)) ⟨0, [b], false⟩ (by simp)
      simp [TP.cov] at this
  have hw : 0 < (pt s 0 [b] false).en ∧ (pt s 0 [b] false).gp = [] := ⟨by omega, hg⟩
  refine ⟨?_, ?_, hw, ?_⟩
  · unfold rf
    rw [if_neg (by omega), if_neg (by simp), if_neg (by omega), if_neg (by omega), if_neg (by omega), if_neg (by omega), if_neg (by rw [hbs]; simp)]
  · have := fN_all' (o := 0) (e := 1) (by omega) h.inv.ris (fun i _ q => hin i (by rw [hbd]; omega))
    omega
  · have hl := hst.len hw
    rw [hE] at hl
    obtain ⟨p, q1, q2⟩ := hst.whole hw 0 (by omega)
    have hp : p = ⟨0, [b], false⟩ := by
      have := List.mem_of_find?_eq_some q1
      simpa using this
    subst hp
    match hbb : (pt s 0 [b] false).bs, hl with
    | [x], _ =>
      rw [hbb] at q2
      simpa using q2
/-- Held tells all just when no hole is left -/
theorem held_whole {s : HS} (hi : Inv s) (hk : 0 < s.en) : (s.bd - sm s.gp = s.en) ↔ s.gp = [] := by
  have hbd : s.bd = s.en := by unfold HS.bd; rw [if_pos hk]
  have hs := hi.ris.sum
  constructor
  · intro q
    cases hg : s.gp with
    | nil => rfl
    | cons g r =>
      exfalso
      have hr := hi.ris
      rw [hg] at hr q hs
      obtain ⟨_, h2, _, _⟩ := hr
      simp only [sm] at q hs
      omega
  · intro q
    rw [q, hbd]
    simp [sm]
end H11
end Go.Proofs.Ytcoaghcmbhogjaa
