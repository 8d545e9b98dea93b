/-
  Ref3s Ref3t Ref3u Ref3v Ref3w Ref3x Ref3y Ref3z Ref3za Ref3zb, one behind the other.
-/
import Derived.Test.YthknkfggpdhdbaaK3e
import Derived.Test.YthknkfggpdhdbaaK3c
namespace Go.Proofs.Ythknkfggpdhdbaa
open Go.RowKit

/-- what 'first' finds: nobody is there; or one, and none came earlier -/
theorem bst_spec (L : List RB) (pc : Nat) : ∀ K, K ≤ L.length → (bst L pc K = -1 ∧ ∀ j x, j < K → L[j]? = some x → x.pl ≠ pc) ∨ ∃ (i : Nat) (x : RB), bst L pc K = (i : Int) ∧ i < K ∧ L[i]? = some x ∧ x.pl = pc ∧ ∀ j y, j < K → L[j]? = some y → y.pl = pc → x.since ≤ y.since
  | 0, _ => .inl ⟨rfl, fun j x h => by omega⟩
  | K + 1, hK => by
    have hk : K < L.length := by omega
    have e : L[K]? = some L[K] := List.getElem?_eq_getElem hk
    have ih := bst_spec L pc K (by omega)
    have hb : bst L pc (K + 1) = if (L[K]?.map RB.pl) = some pc ∧ (bst L pc K < 0 ∨ (L[K]?.map RB.since).getD 0 < (L[(bst L pc K).toNat]?.map RB.since).getD 0) then (K : Int) else bst L pc K := rfl
    rw [e] at hb
    simp only [Option.map_some, Option.some.injEq, Option.getD_some] at hb
    rcases ih with ⟨h1, h2⟩ | ⟨i, x, h1, h2, h3, h4, h5⟩
    · by_cases hp : L[K].pl = pc
      · rw [if_pos ⟨hp, .inl (by rw [h1]; decide)⟩] at hb
        refine .inr ⟨K, L[K], hb, by omega, e, hp, fun j y hj hy hpy => ?_⟩
        by_cases ej : j = K
        · subst ej
          rw [e] at hy
          have := Option.some.inj hy
          rw [this]
          exact Nat.le_refl _
        · exact absurd hpy (h2 j y (by omega) hy)
      · rw [if_neg (fun h => hp h.1)] at hb
        refine .inl ⟨by rw [hb, h1], fun j y hj hy => ?_⟩
        by_cases ej : j = K
        · subst ej
          rw [e] at hy
          have := Option.some.inj hy
          rw [← this]
          exact hp
        · exact h2 j y (by omega) hy
    · rw [h1, Int.toNat_natCast, h3] at hb
      simp only [Option.map_some, Option.getD_some] at hb
      by_cases hc : L[K].pl = pc ∧ L[K].since < x.since
      · rw [if_pos ⟨hc.1, .inr hc.2⟩] at hb
        refine .inr ⟨K, L[K], hb, by omega, e, hc.1, fun j y hj hy hpy => ?_⟩
        by_cases ej : j = K
        · subst ej
          rw [e] at hy
          have := Option.some.inj hy
          rw [this]
          exact Nat.le_refl _
        · have := h5 j y (by omega) hy hpy
          omega
      · rw [if_neg (fun h => hc ⟨h.1, h.2.elim (fun h => by omega) id⟩)] at hb
        refine .inr ⟨i, x, hb, by omega, h3, h4, fun j y hj hy hpy => ?_⟩
        by_cases ej : j = K
        · subst ej
          rw [e] at hy
          have := Option.some.inj hy
          subst this
          by_cases hs : L[j].since < x.since
          · exact absurd ⟨hpy, hs⟩ hc
          · omega
        · exact h5 j y (by omega) hy hpy
/-- since when a buffer is at its place -/
def sn (L : List RB) (i : Nat) : Nat := (L[i]?.map RB.since).getD 0
/-- a line: the numbers of those at a place, in the order in which they came there -/
structure Ord (L : List RB) (X : List Nat) (pc : Nat) : Prop where
  mem : ∀ i, i ∈ X ↔ (L[i]?.map RB.pl) = some pc
  ord : X.Pairwise (fun i j => sn L i < sn L j)
/-- a line's head, or -1 -/
def hdI : List Nat → Int
  | [] => -1
  | i :: _ => (i : Int)
/-- 'first' is the line's head -/
theorem Ord.first {L : List RB} {X : List Nat} {pc : Nat} (h : Ord L X pc) : bst L pc L.length = hdI X := by
  have hs := bst_spec L pc L.length (Nat.le_refl _)
  cases X with
  | nil =>
    rcases hs with ⟨h1, _⟩ | ⟨i, x, h1, h2, h3, h4, _⟩
    · exact h1
    · have := (h.mem i).2 (by rw [h3, ← h4]; rfl)
      cases this
  | cons i X =>
    have hi := (h.mem i).1 List.mem_cons_self
    obtain ⟨y, hy, hyp⟩ := Option.map_eq_some_iff.1 hi
    have hil : i < L.length := (List.getElem?_eq_some_iff.1 hy).1
    rcases hs with ⟨_, h2⟩ | ⟨j, x, h1, h2, h3, h4, h5⟩
    · exact absurd hyp (h2 i y hil hy)
    · have hj := (h.mem j).2 (by rw [h3, ← h4]; rfl)
      have h6 := h5 i y hil hy hyp
      rw [h1]
      rcases List.mem_cons.1 hj with rfl | hj
      · rfl
      · have h7 := (List.pairwise_cons.1 h.ord).1 j hj
        unfold sn at h7
        rw [hy, h3] at h7
        simp only [Option.map_some, Option.getD_some] at h7
        omega
end Go.Proofs.Ythknkfggpdhdbaa
namespace Go.Proofs.Ythknkfggpdhdbaa
open Go.RowKit

theorem mvL_len (L : List RB) (i pc now : Nat) : (mvL L i pc now).length = L.length := by unfold mvL; rw [List.length_set]
theorem mvL_same (L : List RB) (i pc now : Nat) (hi : i < L.length) : (mvL L i pc now)[i]? = some { L[i] with pl := pc, since := now } := by
  unfold mvL
  rw [List.getElem?_eq_getElem hi, List.getElem?_set, if_pos rfl, if_pos hi]
theorem mvL_other (L : List RB) (i pc now j : Nat) (hj : j ≠ i) : (mvL L i pc now)[j]? = L[j]? := by
  unfold mvL
  rw [List.getElem?_set, if_neg (fun e => hj e.symm)]
theorem sn_other (L : List RB) (i pc now j : Nat) (hj : j ≠ i) : sn (mvL L i pc now) j = sn L j := by unfold sn; rw [mvL_other L i pc now j hj]
theorem sn_same (L : List RB) (i pc now : Nat) (hi : i < L.length) : sn (mvL L i pc now) i = now := by unfold sn; rw [mvL_same L i pc now hi]; rfl
theorem pairwise_on {X : List Nat} {R S : Nat → Nat → Prop} (h : X.Pairwise R) (hx : ∀ i ∈ X, ∀ j ∈ X, R i j → S i j) : X.Pairwise S := by
  induction X with
  | nil => exact List.Pairwise.nil
  | cons a X ih =>
    obtain ⟨h1, h2⟩ := List.pairwise_cons.1 h
    refine List.pairwise_cons.2 ⟨fun j hj => hx a List.mem_cons_self j (List.mem_cons_of_mem _ hj) (h1 j hj), ih h2 (fun i hi j hj => hx i (List.mem_cons_of_mem _ hi) j (List.mem_cons_of_mem _ hj))⟩
theorem Ord.lt {L : List RB} {X : List Nat} {p i : Nat} (h : Ord L X p) (hi : i ∈ X) : i < L.length := by
  obtain ⟨y, hy, _⟩ := Option.map_eq_some_iff.1 ((h.mem i).1 hi)
  exact (List.getElem?_eq_some_iff.1 hy).1
/-- the head leaves -/
theorem Ord.leave {L : List RB} {X : List Nat} {i p q now : Nat} (h : Ord L (i :: X) p) (hq : q ≠ p) : Ord (mvL L i q now) X p := by
  have hi := h.lt List.mem_cons_self
  obtain ⟨o1, o2⟩ := List.pairwise_cons.1 h.ord
  have hni : i ∉ X := fun hx => Nat.lt_irrefl _ (o1 i hx)
  refine ⟨fun j => ?_, pairwise_on o2 (fun a ha b hb hr => ?_)⟩
  · by_cases e : j = i
    · subst e
      rw [mvL_same L j q now hi]
      exact ⟨fun hx => absurd hx hni, fun hx => absurd (Option.some.inj hx) hq⟩
    · rw [mvL_other L i q now j e, ← h.mem j]
      exact ⟨fun hx => List.mem_cons_of_mem _ hx, fun hx => (List.mem_cons.1 hx).elim (fun e' => absurd e' e) id⟩
  · rw [sn_other L i q now a (fun e => hni (e ▸ ha)), sn_other L i q now b (fun e => hni (e ▸ hb))]
    exact hr
/-- one joins, as the last -/
theorem Ord.join {L : List RB} {Y : List Nat} {i q now : Nat} (h : Ord L Y q) (hi : i < L.length) (hp : L[i].pl ≠ q) (hnow : ∀ j ∈ Y, sn L j < now) : Ord (mvL L i q now) (Y ++ [i]) q := by
  have hni : i ∉ Y := fun hx => by
    have := (h.mem i).1 hx
    rw [List.getElem?_eq_getElem hi] at this
    exact hp (Option.some.inj this)
  refine ⟨fun j => ?_, List.pairwise_append.2 ⟨pairwise_on h.ord (fun a ha b hb hr => ?_), List.pairwise_singleton _ _, fun a ha b hb => ?_⟩⟩
  · by_cases e : j = i
    · subst e
      rw [mvL_same L j q now hi]
      exact ⟨fun _ => rfl, fun _ => List.mem_append_right _ (List.mem_singleton.2 rfl)⟩
    · rw [mvL_other L i q now j e, ← h.mem j, List.mem_append, List.mem_singleton]
      exact ⟨fun hx => hx.elim id (fun e' => absurd e' e), .inl⟩
  · rw [sn_other L i q now a (fun e => hni (e ▸ ha)), sn_other L i q now b (fun e => hni (e ▸ hb))]
    exact hr
  · rw [List.mem_singleton] at hb
    subst hb
    rw [sn_same L b q now hi, sn_other L b q now a (fun e => hni (e ▸ ha))]
    exact hnow a ha
/-- another line stands -/
theorem Ord.keep {L : List RB} {Z : List Nat} {i q z now : Nat} (h : Ord L Z z) (hi : i < L.length) (hp : L[i].pl ≠ z) (hq : q ≠ z) : Ord (mvL L i q now) Z z := by
  have hni : i ∉ Z := fun hx => by
    have := (h.mem i).1 hx
    rw [List.getElem?_eq_getElem hi] at this
    exact hp (Option.some.inj this)
  refine ⟨fun j => ?_, pairwise_on h.ord (fun a ha b hb hr => ?_)⟩
  · by_cases e : j = i
    · subst e
      rw [mvL_same L j q now hi]
      exact ⟨fun hx => absurd hx hni, fun hx => absurd (Option.some.inj hx) hq⟩
    · rw [mvL_other L i q now j e]
      exact h.mem j
  · rw [sn_other L i q now a (fun e => hni (e ▸ ha)), sn_other L i q now b (fun e => hni (e ▸ hb))]
    exact hr
/-- a new port's free line -/
theorem Ord.fresh (n : Nat) : Ord (freshL n) (List.range n) 1 := by
  have e : ∀ i, (freshL n)[i]? = if i < n then some ⟨1, i, 0, none, 0, []⟩ else none := fun i => by
    unfold freshL
    by_cases h : i < n
    · simp [h]
    · simp [h]
  refine ⟨fun i => ?_, ?_⟩
  · rw [List.mem_range, e i]
    by_cases h : i < n
    · rw [if_pos h]; exact ⟨fun _ => rfl, fun _ => h⟩
    · rw [if_neg h]; exact ⟨fun h' => absurd h' h, fun h' => by cases h'⟩
  · refine pairwise_on List.pairwise_lt_range (fun a ha b hb hr => ?_)
    unfold sn
    rw [e a, e b, if_pos (List.mem_range.1 ha), if_pos (List.mem_range.1 hb)]
    exact hr
theorem Ord.fresh_none (n p : Nat) (hp : p ≠ 1) : Ord (freshL n) [] p := by
  refine ⟨fun i => ⟨fun h => (by cases h), fun h => ?_⟩, List.Pairwise.nil⟩
  obtain ⟨y, hy, hyp⟩ := Option.map_eq_some_iff.1 h
  obtain ⟨hl, e⟩ := List.getElem?_eq_some_iff.1 hy
  have : y.pl = 1 := by rw [← e]; simp [freshL]
  omega
end Go.Proofs.Ythknkfggpdhdbaa
namespace Go.Proofs.Ythknkfggpdhdbaa
open Go.RowKit

theorem Ord.nodup {L : List RB} {X : List Nat} {p : Nat} (h : Ord L X p) : X.Nodup := by
  have := h.ord
  unfold List.Nodup
  exact this.imp (fun {a b} hr e => by subst e; exact Nat.lt_irrefl _ hr)
theorem countP_succ (X : List Nat) (K : Nat) (h : X.Nodup) : X.countP (fun i => decide (i < K + 1)) = X.countP (fun i => decide (i < K)) + if K ∈ X then 1 else 0 := by
  induction X with
  | nil => rfl
  | cons a X ih =>
    obtain ⟨h1, h2⟩ := List.nodup_cons.1 h
    have ih := ih h2
    rw [List.countP_cons, List.countP_cons, ih]
    by_cases e : a = K
    · subst e
      rw [if_neg h1, if_pos List.mem_cons_self]
      simp
    · have hm : (K ∈ a :: X) ↔ K ∈ X := ⟨fun hx => (List.mem_cons.1 hx).elim (fun e' => absurd e'.symm e) id, List.mem_cons_of_mem _⟩
      simp only [hm, decide_eq_true_eq]
      by_cases h3 : a < K
      · rw [if_pos (show a < K + 1 by omega), if_pos h3]; omega
      · rw [if_neg (show ¬ a < K + 1 by omega), if_neg h3]; omega
theorem Ord.count_to {L : List RB} {X : List Nat} {p : Nat} (h : Ord L X p) : ∀ K, rcnt L p K = X.countP (fun i => decide (i < K))
  | 0 => by rw [rcnt]; symm; rw [List.countP_eq_zero]; intro a _; simp
  | K + 1 => by
    rw [rcnt, countP_succ X K h.nodup, h.count_to K]
    by_cases e : K ∈ X
    · rw [if_pos e, if_pos ((h.mem K).1 e)]
    · rw [if_neg e, if_neg (fun h' => e ((h.mem K).2 h'))]
/-- how many are at a place: the line's length -/
theorem Ord.count {L : List RB} {X : List Nat} {p : Nat} (h : Ord L X p) : rcnt L p L.length = X.length := by
  rw [h.count_to L.length, List.countP_eq_length]
  intro a ha
  exact decide_eq_true (h.lt ha)
theorem rcnt_cnt (L : List RB) (pl : Nat → Nat) (p : Nat) : ∀ K, (∀ i, i < K → (L[i]?.map RB.pl) = some (pl i)) → rcnt L p K = cnt pl K p
  | 0, _ => rfl
  | K + 1, h => by
    rw [rcnt, cnt, rcnt_cnt L pl p K (fun i hi => h i (by omega)), h K (by omega)]
    by_cases e : pl K = p
    · rw [if_pos e, if_pos (by rw [e])]
    · rw [if_neg e, if_neg (fun h' => e (Option.some.inj h'))]
/-- a buffer's bytes, with the zeros behind them -/
def pad (d : List Nat) (n : Nat) : List Nat := d ++ List.replicate (n - d.length) 0
/-- the document's port and the port are alike -/
structure TwinR (s : PS) (r : RV) : Prop where
  len : r.L.length = s.pool
  rx : r.rx = s.rxn
  tx : r.tx = s.txn
  size : r.size = s.size
  pl : ∀ i, i < s.pool → (r.L[i]?.map RB.pl) = some (s.pl i)
  ln : ∀ i, i < s.pool → (r.L[i]?.map RB.n) = some (s.ln i)
  da : ∀ (i : Nat) (x : RB), r.L[i]? = some x → x.d.length ≤ s.size ∧ s.da i = pad x.d s.size
  fr : Ord r.L s.fr 1
  po : Ord r.L (s.rx.drop s.filled) 2
  fi : Ord r.L (s.rx.take s.filled) 3
  qu : Ord r.L s.tx 5
  now : ∀ (i : Nat) (x : RB), r.L[i]? = some x → x.since < r.now
theorem TwinR.stat {s : PS} {r : RV} (h : TwinR s r) : .agg (rstat r.L) = statV s.pl s.pool := by
  unfold rstat statV
  have e : ∀ p, rcnt r.L p r.L.length = cnt s.pl s.pool p := fun p => by rw [h.len]; exact rcnt_cnt r.L s.pl p s.pool h.pl
  simp only [e]
/-- a line's member came before now -/
theorem TwinR.before {s : PS} {r : RV} (h : TwinR s r) {X : List Nat} {p : Nat} (hX : Ord r.L X p) : ∀ j ∈ X, sn r.L j < r.now := fun j hj => by
  obtain ⟨y, hy, _⟩ := Option.map_eq_some_iff.1 ((hX.mem j).1 hj)
  unfold sn
  rw [hy]
  exact h.now j y hy
theorem TwinR.place {s : PS} {r : RV} (h : TwinR s r) (i : Nat) (hi : i < r.L.length) : r.L[i].pl = s.pl i := by
  have := h.pl i (by rw [← h.len]; exact hi)
  rw [List.getElem?_eq_getElem hi] at this
  exact Option.some.inj this
/-- the buffers behind a move, but for the lines -/
theorem TwinR.moved {s : PS} {r : RV} (h : TwinR s r) (i q g cl : Nat) (hi : i < r.L.length) :
    (r.mv i q g cl).L.length = s.pool ∧ (∀ j, j < s.pool → ((r.mv i q g cl).L[j]?.map RB.pl) = some (updF s.pl i q j)) ∧ (∀ j, j < s.pool → ((r.mv i q g cl).L[j]?.map RB.n) = some (s.ln j)) ∧ (∀ (j : Nat) (x : RB), (r.mv i q g cl).L[j]? = some x → x.d.length ≤ s.size ∧ s.da j = pad x.d s.size) ∧ ∀ (j : Nat) (x : RB), (r.mv i q g cl).L[j]? = some x → x.since < (r.mv i q g cl).now := by
  have hn : (r.mv i q g cl).now = r.now + 1 := rfl
  rw [mv_L, hn]
  have e0 := List.getElem?_eq_getElem hi
  refine ⟨by rw [mvL_len]; exact h.len, fun j hj => ?_, fun j hj => ?_, fun j x hx => ?_, fun j x hx => ?_⟩
  · by_cases e : j = i
    · subst e; rw [mvL_same r.L j q r.now hi]; simp [updF]
    · rw [mvL_other r.L i q r.now j e, h.pl j hj]; simp [updF, e]
  · by_cases e : j = i
    · subst e
      rw [mvL_same r.L j q r.now hi]
      have := h.ln j hj
      rw [e0] at this
      exact this
    · rw [mvL_other r.L i q r.now j e, h.ln j hj]
  · by_cases e : j = i
    · subst e
      rw [mvL_same r.L j q r.now hi] at hx
      have := Option.some.inj hx
      subst this
      have h9 := h.da j _ e0
      exact h9
    · rw [mvL_other r.L i q r.now j e] at hx
      exact h.da j x hx
  · by_cases e : j = i
    · subst e
      rw [mvL_same r.L j q r.now hi] at hx
      have := Option.some.inj hx
      subst this
      exact Nat.lt_succ_self _
    · rw [mvL_other r.L i q r.now j e] at hx
      exact Nat.lt_succ_of_lt (h.now j x hx)
end Go.Proofs.Ythknkfggpdhdbaa
namespace Go.Proofs.Ythknkfggpdhdbaa
open Go.RowKit

theorem Ord.pl_at {L : List RB} {X : List Nat} {p i : Nat} (h : Ord L X p) (hi : i ∈ X) : ∃ hl : i < L.length, L[i].pl = p := by
  have hl := h.lt hi
  have := (h.mem i).1 hi
  rw [List.getElem?_eq_getElem hl] at this
  exact ⟨hl, Option.some.inj this⟩
theorem TwinR.polled {s : PS} {r : RV} (h : TwinR s r) {i m : Nat} {rest : List Nat} (hx : s.rx = i :: rest) (hm : s.filled = m + 1) (b g cl : Nat) : bst r.L 3 r.L.length = (i : Int) ∧ TwinR (s.polled i b rest m) (r.mv i 4 g cl) := by
  have hfi := h.fi
  have hpo := h.po
  rw [hx, hm] at hfi hpo
  rw [List.take_succ_cons] at hfi
  rw [List.drop_succ_cons] at hpo
  obtain ⟨hl, hp⟩ := hfi.pl_at List.mem_cons_self
  obtain ⟨m1, m2, m3, m4, m5⟩ := h.moved i 4 g cl hl
  refine ⟨hfi.first, ⟨m1, h.rx, h.tx, h.size, m2, m3, m4, ?_, ?_, ?_, ?_, m5⟩⟩
  · rw [mv_L]; exact h.fr.keep hl (by rw [hp]; decide) (by decide)
  · rw [mv_L]; exact hpo.keep hl (by rw [hp]; decide) (by decide)
  · rw [mv_L]; exact hfi.leave (by decide)
  · rw [mv_L]; exact h.qu.keep hl (by rw [hp]; decide) (by decide)
theorem TwinR.drained {s : PS} {r : RV} (h : TwinR s r) {i : Nat} {rest : List Nat} (hx : s.tx = i :: rest) (b g cl : Nat) : bst r.L 5 r.L.length = (i : Int) ∧ TwinR (s.drained i b rest) (r.mv i 1 g cl) := by
  have hqu := h.qu
  rw [hx] at hqu
  obtain ⟨hl, hp⟩ := hqu.pl_at List.mem_cons_self
  obtain ⟨m1, m2, m3, m4, m5⟩ := h.moved i 1 g cl hl
  refine ⟨hqu.first, ⟨m1, h.rx, h.tx, h.size, m2, m3, m4, ?_, ?_, ?_, ?_, m5⟩⟩
  · rw [mv_L]; exact h.fr.join hl (by rw [hp]; decide) (h.before h.fr)
  · rw [mv_L]; exact h.po.keep hl (by rw [hp]; decide) (by decide)
  · rw [mv_L]; exact h.fi.keep hl (by rw [hp]; decide) (by decide)
  · rw [mv_L]; exact hqu.leave (by decide)
end Go.Proofs.Ythknkfggpdhdbaa
namespace Go.Proofs.Ythknkfggpdhdbaa
open Go.RowKit

theorem TwinR.released {s : PS} {r : RV} (h : TwinR s r) {i : Nat} (hi : i < s.pool) (h4 : s.pl i = 4) (g cl : Nat) : TwinR { s with pl := updF s.pl i 1, fr := s.fr ++ [i] } (r.mv i 1 g cl) := by
  have hl : i < r.L.length := by rw [h.len]; exact hi
  have hp : r.L[i].pl = 4 := (h.place i hl).trans h4
  obtain ⟨m1, m2, m3, m4, m5⟩ := h.moved i 1 g cl hl
  refine ⟨m1, h.rx, h.tx, h.size, m2, m3, m4, ?_, ?_, ?_, ?_, m5⟩
  · rw [mv_L]; exact h.fr.join hl (by rw [hp]; decide) (h.before h.fr)
  · rw [mv_L]; exact h.po.keep hl (by rw [hp]; decide) (by decide)
  · rw [mv_L]; exact h.fi.keep hl (by rw [hp]; decide) (by decide)
  · rw [mv_L]; exact h.qu.keep hl (by rw [hp]; decide) (by decide)
/-- a buffer is another, at the same place, since the same time -/
theorem Ord.put {L : List RB} {X : List Nat} {p i : Nat} {y : RB} (h : Ord L X p) (hi : i < L.length) (h1 : y.pl = L[i].pl) (h2 : y.since = L[i].since) : Ord (L.set i y) X p := by
  have e1 : ∀ j, ((L.set i y)[j]?.map RB.pl) = (L[j]?.map RB.pl) := fun j => by
    rw [List.getElem?_set]
    by_cases e : i = j
    · subst e; rw [if_pos rfl, if_pos hi, List.getElem?_eq_getElem hi, Option.map_some, Option.map_some, h1]
    · rw [if_neg e]
  have e2 : ∀ j, sn (L.set i y) j = sn L j := fun j => by
    unfold sn
    rw [List.getElem?_set]
    by_cases e : i = j
    · subst e; rw [if_pos rfl, if_pos hi, List.getElem?_eq_getElem hi, Option.map_some, Option.map_some, h2]
    · rw [if_neg e]
  exact ⟨fun j => by rw [e1]; exact h.mem j, pairwise_on h.ord (fun a _ b _ hr => by rw [e2, e2]; exact hr)⟩
theorem TwinR.put {s : PS} {r : RV} (h : TwinR s r) {i : Nat} {y : RB} (hi : i < r.L.length) (h1 : y.pl = r.L[i].pl) (h2 : y.since = r.L[i].since) (h3 : y.d.length ≤ s.size) (D : List Nat) (hD : D = pad y.d s.size) (g cl : Nat) : TwinR { s with ln := updF s.ln i y.n, da := updF s.da i D } (r.pt i y g cl) := by
  have e0 := List.getElem?_eq_getElem hi
  have eL : (r.pt i y g cl).L = r.L.set i y := rfl
  have es : (r.L.set i y)[i]? = some y := by rw [List.getElem?_set, if_pos rfl, if_pos hi]
  have eo : ∀ j, j ≠ i → (r.L.set i y)[j]? = r.L[j]? := fun j hj => by rw [List.getElem?_set, if_neg (fun e => hj e.symm)]
  refine ⟨by rw [eL, List.length_set]; exact h.len, h.rx, h.tx, h.size, fun j hj => ?_, fun j hj => ?_, fun j x hx => ?_, h.fr.put hi h1 h2, h.po.put hi h1 h2, h.fi.put hi h1 h2, h.qu.put hi h1 h2, fun j x hx => ?_⟩
  · rw [eL]
    by_cases e : j = i
    · subst e; rw [es, Option.map_some, h1, h.place j hi]
    · rw [eo j e]; exact h.pl j hj
  · rw [eL]
    by_cases e : j = i
    · subst e; rw [es]; simp [updF]
    · rw [eo j e, h.ln j hj]; simp [updF, e]
  · rw [eL] at hx
    by_cases e : j = i
    · subst e
      rw [es] at hx
      have := Option.some.inj hx
      subst this
      exact ⟨h3, by show updF s.da j D j = _; simp [updF, hD]⟩
    · rw [eo j e] at hx
      exact ⟨(h.da j x hx).1, by show updF s.da i D j = _; simp only [updF, if_neg e]; exact (h.da j x hx).2⟩
  · rw [eL] at hx
    by_cases e : j = i
    · subst e
      rw [es] at hx
      have := Option.some.inj hx
      subst this
      rw [h2]
      exact h.now j _ e0
    · rw [eo j e] at hx
      exact h.now j x hx
end Go.Proofs.Ythknkfggpdhdbaa
namespace Go.Proofs.Ythknkfggpdhdbaa
open Go.RowKit

theorem updF_self {α : Type} (f : Nat → α) (i : Nat) (x : α) (h : f i = x) : updF f i x = f := by
  funext j
  by_cases e : j = i
  · subst e; simp [updF, h]
  · simp [updF, e]
theorem TwinR.len_at {s : PS} {r : RV} (h : TwinR s r) {i : Nat} (hi : i < r.L.length) : s.ln i = r.L[i].n := by
  have := h.ln i (by rw [← h.len]; exact hi)
  rw [List.getElem?_eq_getElem hi] at this
  exact (Option.some.inj this).symm
theorem pt_at (r : RV) (i : Nat) (y : RB) (g cl : Nat) (hi : i < r.L.length) : ∃ hl : i < (r.pt i y g cl).L.length, (r.pt i y g cl).L[i] = y := by
  have hl : i < (r.L.set i y).length := by rw [List.length_set]; exact hi
  exact ⟨hl, List.getElem_set_self hl⟩
theorem TwinR.sent {s : PS} {r : RV} (h : TwinR s r) {i : Nat} (h4 : s.pl i = 4) (hl : i < r.L.length) (n g cl g' cl' : Nat) : TwinR { s with pl := updF s.pl i 5, ln := updF s.ln i n, tx := s.tx ++ [i] } ((r.pt i ⟨r.L[i].pl, r.L[i].since, n, r.L[i].a, r.L[i].c, r.L[i].d⟩ g' cl').mv i 5 g cl) := by
  have e0 := List.getElem?_eq_getElem hl
  have h1 := h.put (y := ⟨r.L[i].pl, r.L[i].since, n, r.L[i].a, r.L[i].c, r.L[i].d⟩) hl rfl rfl (h.da i _ e0).1 (s.da i) (h.da i _ e0).2 g' cl'
  rw [updF_self s.da i _ rfl] at h1
  obtain ⟨hl1, e1⟩ := pt_at r i ⟨r.L[i].pl, r.L[i].since, n, r.L[i].a, r.L[i].c, r.L[i].d⟩ g' cl' hl
  have hp0 : r.L[i].pl = 4 := (h.place i hl).trans h4
  have hp := congrArg RB.pl e1
  replace hp := hp.trans hp0
  obtain ⟨m1, m2, m3, m4, m5⟩ := h1.moved i 5 g cl hl1
  refine ⟨m1, h.rx, h.tx, h.size, m2, m3, m4, ?_, ?_, ?_, ?_, m5⟩
  · rw [mv_L]; exact h1.fr.keep hl1 (by rw [hp]; decide) (by decide)
  · rw [mv_L]; exact h1.po.keep hl1 (by rw [hp]; decide) (by decide)
  · rw [mv_L]; exact h1.fi.keep hl1 (by rw [hp]; decide) (by decide)
  · rw [mv_L]; exact h1.qu.join hl1 (by rw [hp]; decide) (h1.before h1.qu)
theorem TwinR.taken {s : PS} {r : RV} (h : TwinR s r) {i : Nat} {rest : List Nat} (hx : s.fr = i :: rest) (hl : i < r.L.length) (b g cl g' cl' : Nat) : bst r.L 1 r.L.length = (i : Int) ∧ TwinR (s.taken i b rest) ((r.pt i ⟨r.L[i].pl, r.L[i].since, r.L[i].n, none, 0, []⟩ g' cl').mv i 4 g cl) := by
  have hfr := h.fr
  rw [hx] at hfr
  have hp0 : r.L[i].pl = 1 := (hfr.pl_at List.mem_cons_self).2
  have h1 := h.put (y := ⟨r.L[i].pl, r.L[i].since, r.L[i].n, none, 0, []⟩) hl rfl rfl (Nat.zero_le _) (List.replicate s.size 0) (by simp [pad]) g' cl'
  rw [updF_self s.ln i _ (h.len_at hl)] at h1
  obtain ⟨hl1, e1⟩ := pt_at r i ⟨r.L[i].pl, r.L[i].since, r.L[i].n, none, 0, []⟩ g' cl' hl
  have hp := (congrArg RB.pl e1).trans hp0
  obtain ⟨m1, m2, m3, m4, m5⟩ := h1.moved i 4 g cl hl1
  have hfr1 := h1.fr
  replace hfr1 : Ord (r.pt i ⟨r.L[i].pl, r.L[i].since, r.L[i].n, none, 0, []⟩ g' cl').L (i :: rest) 1 := by rw [← hx]; exact hfr1
  refine ⟨hfr.first, ⟨m1, h.rx, h.tx, h.size, m2, m3, m4, ?_, ?_, ?_, ?_, m5⟩⟩
  · rw [mv_L]; exact hfr1.leave (by decide)
  · rw [mv_L]; exact h1.po.keep hl1 (by rw [hp]; decide) (by decide)
  · rw [mv_L]; exact h1.fi.keep hl1 (by rw [hp]; decide) (by decide)
  · rw [mv_L]; exact h1.qu.keep hl1 (by rw [hp]; decide) (by decide)
theorem pad_ov (d fr : List Nat) (n : Nat) (h1 : d.length ≤ n) (h2 : fr.length ≤ n) : fr ++ (pad d n).drop fr.length = pad (ov d fr d.length) n := by
  unfold pad
  rw [ov_max]
  unfold ov
  rw [List.take_length, List.drop_append, List.append_assoc, List.drop_replicate]
  congr 3
  omega
theorem TwinR.arrived {s : PS} {r : RV} (h : TwinR s r) (hk : s.filled < s.rx.length) {i : Nat} (hx : s.rx[s.filled] = i) (hl : i < r.L.length) (fr : List Nat) (hf : fr.length ≤ s.size) (av : Option Addr) (cv b g cl g' cl' : Nat) : bst r.L 2 r.L.length = (i : Int) ∧ TwinR (s.arrived i b fr) ((r.pt i ⟨r.L[i].pl, r.L[i].since, fr.length, av, cv, ov r.L[i].d fr r.L[i].d.length⟩ g' cl').mv i 3 g cl) := by
  have e0 := List.getElem?_eq_getElem hl
  obtain ⟨d1, d2⟩ := h.da i _ e0
  have ed : s.rx.drop s.filled = i :: s.rx.drop (s.filled + 1) := by rw [List.drop_eq_getElem_cons hk, hx]
  have et : s.rx.take (s.filled + 1) = s.rx.take s.filled ++ [i] := by rw [List.take_succ_eq_append_getElem hk, hx]
  have hpo := h.po
  rw [ed] at hpo
  have hp0 : r.L[i].pl = 2 := (hpo.pl_at List.mem_cons_self).2
  have h1 := h.put (y := ⟨r.L[i].pl, r.L[i].since, fr.length, av, cv, ov r.L[i].d fr r.L[i].d.length⟩) hl rfl rfl (by show (ov _ _ _).length ≤ _; rw [ov_max]; omega) (fr ++ (s.da i).drop fr.length) (by rw [d2]; exact pad_ov _ _ _ d1 hf) g' cl'
  obtain ⟨hl1, e1⟩ := pt_at r i ⟨r.L[i].pl, r.L[i].since, fr.length, av, cv, ov r.L[i].d fr r.L[i].d.length⟩ g' cl' hl
  have hp := (congrArg RB.pl e1).trans hp0
  obtain ⟨m1, m2, m3, m4, m5⟩ := h1.moved i 3 g cl hl1
  have hpo1 := h1.po
  replace hpo1 : Ord (r.pt i ⟨r.L[i].pl, r.L[i].since, fr.length, av, cv, ov r.L[i].d fr r.L[i].d.length⟩ g' cl').L (i :: s.rx.drop (s.filled + 1)) 2 := by rw [← ed]; exact hpo1
  refine ⟨hpo.first, ⟨m1, h.rx, h.tx, h.size, m2, m3, m4, ?_, ?_, ?_, ?_, m5⟩⟩
  · rw [mv_L]; exact h1.fr.keep hl1 (by rw [hp]; decide) (by decide)
  · rw [mv_L]; exact hpo1.leave (by decide)
  · rw [mv_L]
    show Ord _ (s.rx.take (s.filled + 1)) 3
    rw [et]
    exact h1.fi.join hl1 (by rw [hp]; decide) (h1.before h1.fi)
  · rw [mv_L]; exact h1.qu.keep hl1 (by rw [hp]; decide) (by decide)
end Go.Proofs.Ythknkfggpdhdbaa
namespace Go.Proofs.Ythknkfggpdhdbaa
open Go.RowKit

theorem TwinR.posted {s : PS} {r : RV} (h : TwinR s r) (hf : s.filled ≤ s.rx.length) {i : Nat} {rest : List Nat} (hx : s.fr = i :: rest) (g cl : Nat) : TwinR (s.refilled 1) (r.mv i 2 g cl) := by
  have hfr := h.fr
  rw [hx] at hfr
  obtain ⟨hl, hp⟩ := hfr.pl_at List.mem_cons_self
  obtain ⟨m1, m2, m3, m4, m5⟩ := h.moved i 2 g cl hl
  have et : s.fr.take 1 = [i] := by rw [hx]; rfl
  have ed : s.fr.drop 1 = rest := by rw [hx]; rfl
  refine ⟨m1, h.rx, h.tx, h.size, fun j hj => ?_, m3, m4, ?_, ?_, ?_, ?_, m5⟩
  · rw [m2 j hj]
    show some (updF s.pl i 2 j) = some (if j ∈ s.fr.take 1 then 2 else s.pl j)
    rw [et]
    simp [updF]
  · show Ord _ (s.fr.drop 1) 1
    rw [mv_L, ed]; exact hfr.leave (by decide)
  · show Ord _ ((s.rx ++ s.fr.take 1).drop s.filled) 2
    rw [mv_L, et, List.drop_append_of_le_length hf]
    exact h.po.join hl (by rw [hp]; decide) (h.before h.po)
  · show Ord _ ((s.rx ++ s.fr.take 1).take s.filled) 3
    rw [mv_L, et, List.take_append_of_le_length hf]
    exact h.fi.keep hl (by rw [hp]; decide) (by decide)
  · rw [mv_L]; exact h.qu.keep hl (by rw [hp]; decide) (by decide)
theorem refilled_more (s : PS) (k : Nat) (hk : 1 ≤ s.fr.length) : (s.refilled 1).refilled k = s.refilled (k + 1) := by
  cases e : s.fr with
  | nil => rw [e] at hk; simp at hk
  | cons i rest =>
    unfold PS.refilled
    simp only [e, List.drop_succ_cons, List.drop_zero, List.take_succ_cons, List.take_zero, List.append_assoc, List.singleton_append, PS.mk.injEq, true_and, and_true]
    funext j
    by_cases h1 : j = i
    · simp [h1]
    · simp [h1]
/-- the same, whatever memory it lies in -/
theorem TwinR.of_same {s : PS} {r r' : RV} (h : TwinR s r) (h1 : r'.L = r.L) (h2 : r'.now = r.now) (h3 : r'.rx = r.rx) (h4 : r'.tx = r.tx) (h5 : r'.size = r.size) : TwinR s r' :=
  ⟨by rw [h1]; exact h.len, by rw [h3]; exact h.rx, by rw [h4]; exact h.tx, by rw [h5]; exact h.size, by rw [h1]; exact h.pl, by rw [h1]; exact h.ln, by rw [h1]; exact h.da, by rw [h1]; exact h.fr, by rw [h1]; exact h.po, by rw [h1]; exact h.fi, by rw [h1]; exact h.qu, by rw [h1, h2]; exact h.now⟩
theorem TwinR.stop {s : PS} {r : RV} (h : TwinR s r) : rfStop r.rx r.L ↔ (s.fr = [] ∨ s.rxn ≤ s.rx.length) := by
  have e : rcnt r.L 2 r.L.length + rcnt r.L 3 r.L.length = s.rx.length := by
    rw [h.po.count, h.fi.count, List.length_drop, List.length_take]; omega
  unfold rfStop
  rw [e, h.fr.first, h.rx]
  cases s.fr with
  | nil => exact ⟨fun _ => .inl rfl, fun _ => .inl (by decide)⟩
  | cons i rest => exact ⟨fun h' => h'.elim (fun h' => by have h8 : (i : Int) < 0 := h'; omega) .inr, fun h' => h'.elim (fun h' => by cases h') .inr⟩
theorem TwinR.run : ∀ (n : Nat) (s : PS) (r : RV), TwinR s r → s.filled ≤ s.rx.length → (rfRun r.rx n r.L r.now).1 = min n (min s.fr.length (s.rxn - s.rx.length)) ∧ TwinR (s.refilled (rfRun r.rx n r.L r.now).1) { r with L := (rfRun r.rx n r.L r.now).2, now := r.now + (rfRun r.rx n r.L r.now).1 }
  | 0, s, r, h, _ => by
    refine ⟨by simp [rfRun], ?_⟩
    have e : (rfRun r.rx 0 r.L r.now) = (0, r.L) := rfl
    rw [e, PS.refilled_zero]
    exact h.of_same rfl rfl rfl rfl rfl
  | n + 1, s, r, h, hf => by
    rw [rfRun]
    by_cases hs : rfStop r.rx r.L
    · rw [if_pos hs]
      refine ⟨?_, ?_⟩
      · rcases h.stop.1 hs with h1 | h1
        · rw [h1]; simp
        · show 0 = _
          omega
      · rw [PS.refilled_zero]
        exact h.of_same rfl rfl rfl rfl rfl
    · rw [if_neg hs]
      have hs2 : ¬ (s.fr = [] ∨ s.rxn ≤ s.rx.length) := fun h' => hs (h.stop.2 h')
      cases e : s.fr with
      | nil => exact absurd (.inl e) hs2
      | cons i rest =>
        have hb := h.fr.first
        rw [e] at hb
        have hb2 : bst r.L 1 r.L.length = (i : Int) := hb
        rw [hb2, Int.toNat_natCast]
        have hp := h.posted hf e 0 0
        have eL : (r.mv i 2 0 0).L = mvL r.L i 2 r.now := rfl
        have en : (r.mv i 2 0 0).now = r.now + 1 := rfl
        have ex : (r.mv i 2 0 0).rx = r.rx := rfl
        have efr : (s.refilled 1).fr = rest := by show s.fr.drop 1 = rest; rw [e]; rfl
        have erx : (s.refilled 1).rx.length = s.rx.length + 1 := by show (s.rx ++ s.fr.take 1).length = _; rw [e]; simp
        have ih := TwinR.run n (s.refilled 1) (r.mv i 2 0 0) hp (by rw [erx]; exact Nat.le_succ_of_le hf)
        rw [eL, en, ex, efr, erx] at ih
        obtain ⟨i1, i2⟩ := ih
        have en2 : (s.refilled 1).rxn = s.rxn := rfl
        rw [en2] at i1
        refine ⟨?_, ?_⟩
        · show (rfRun r.rx n (mvL r.L i 2 r.now) (r.now + 1)).1 + 1 = _
          rw [i1, List.length_cons]
          have : ¬ s.rxn ≤ s.rx.length := fun h' => hs2 (.inr h')
          omega
        · rw [refilled_more s _ (by rw [e]; simp)] at i2
          exact i2.of_same rfl (by show r.now + (_ + 1) = r.now + 1 + _; omega) rfl rfl rfl
end Go.Proofs.Ythknkfggpdhdbaa
namespace Go.Proofs.Ythknkfggpdhdbaa
open Go.RowKit

theorem freshL_at (k i : Nat) (hi : i < k) : (freshL k)[i]? = some ⟨1, i, 0, none, 0, []⟩ := by simp [freshL, hi]
theorem TwinR.fresh (rx tx pool size : Nat) (a : Option Addr) (c : Nat) : TwinR (newK rx tx pool size pool) (frV rx tx size a c pool pool) := by
  have eL : (frV rx tx size a c pool pool).L = freshL pool := rfl
  have hlt : ∀ (i : Nat) (x : RB), (freshL pool)[i]? = some x → i < pool ∧ x = ⟨1, i, 0, none, 0, []⟩ := fun i x hx => by
    have hi := (List.getElem?_eq_some_iff.1 hx).1
    rw [freshL_len] at hi
    rw [freshL_at pool i hi] at hx
    exact ⟨hi, (Option.some.inj hx).symm⟩
  refine ⟨freshL_len pool, rfl, rfl, rfl, fun i hi => ?_, fun i hi => ?_, fun i x hx => ?_, Ord.fresh pool, Ord.fresh_none pool 2 (by decide), Ord.fresh_none pool 3 (by decide), Ord.fresh_none pool 5 (by decide), fun i x hx => ?_⟩
  · have hi' : i < pool := hi
    rw [eL, freshL_at pool i hi']; simp [newK, hi']
  · have hi' : i < pool := hi
    rw [eL, freshL_at pool i hi']; simp [newK]
  · rw [eL] at hx
    obtain ⟨_, rfl⟩ := hlt i x hx
    exact ⟨Nat.zero_le _, by simp [newK, pad]⟩
  · rw [eL] at hx
    obtain ⟨hi, rfl⟩ := hlt i x hx
    exact hi
end Go.Proofs.Ythknkfggpdhdbaa
namespace Go.Proofs.Ythknkfggpdhdbaa
open Go.RowKit

theorem pad_get (d : List Nat) (n j : Nat) (hj : j < n) : (pad d n)[j]? = some (d.getD j 0) := by
  unfold pad
  by_cases h : j < d.length
  · rw [List.getElem?_append_left h, List.getElem?_eq_getElem h]; simp [List.getD, h]
  · rw [List.getElem?_append_right (by omega), List.getElem?_replicate, if_pos (by omega)]; simp [List.getD, h]
theorem pad_len (d : List Nat) (n : Nat) (h : d.length ≤ n) : (pad d n).length = n := by unfold pad; simp; omega
theorem wrB_get (d : List Nat) (p c j : Nat) : (wrB d p c).getD j 0 = if j = p then c else d.getD j 0 := by
  unfold wrB
  by_cases e : j = p
  · subst e
    rw [if_pos rfl]
    have : j < (bp d (max d.length (j + 1))).length := by rw [bp_len]; omega
    simp [List.getD, this]
  · rw [if_neg e]
    have h1 : ((bp d (max d.length (p + 1))).set p c)[j]? = (bp d (max d.length (p + 1)))[j]? := by rw [List.getElem?_set, if_neg (fun e' => e e'.symm)]
    simp only [List.getD, h1]
    unfold bp
    by_cases h : j < max d.length (p + 1)
    · simp [h, List.getD]
    · have h2 : ¬ j < d.length := by omega
      simp [h, h2]
theorem pad_wrB (d : List Nat) (p c n : Nat) (hd : d.length ≤ n) (hp : p < n) : (pad d n).set p c = pad (wrB d p c) n := by
  have hw : (wrB d p c).length ≤ n := by rw [wrB_len]; omega
  apply List.ext_getElem?
  intro j
  by_cases hj : j < n
  · rw [pad_get _ _ _ hj, wrB_get, List.getElem?_set]
    by_cases e : p = j
    · subst e; rw [if_pos rfl, if_pos (by rw [pad_len _ _ hd]; exact hj), if_pos rfl]
    · rw [if_neg e, if_neg (fun e' => e e'.symm), pad_get _ _ _ hj]
  · rw [List.getElem?_eq_none (by rw [List.length_set, pad_len _ _ hd]; omega), List.getElem?_eq_none (by rw [pad_len _ _ hw]; omega)]
theorem TwinR.written {s : PS} {r : RV} (h : TwinR s r) {i : Nat} (hl : i < r.L.length) (p c : Nat) (hp : p < s.size) (av : Option Addr) (cv g cl : Nat) : TwinR { s with da := updF s.da i ((s.da i).set p c) } (r.pt i ⟨r.L[i].pl, r.L[i].since, r.L[i].n, av, cv, wrB r.L[i].d p c⟩ g cl) := by
  obtain ⟨d1, d2⟩ := h.da i _ (List.getElem?_eq_getElem hl)
  have h1 := h.put (y := ⟨r.L[i].pl, r.L[i].since, r.L[i].n, av, cv, wrB r.L[i].d p c⟩) hl rfl rfl (by show (wrB _ _ _).length ≤ _; rw [wrB_len]; omega) ((s.da i).set p c) (by rw [d2]; exact pad_wrB _ _ _ _ d1 hp) g cl
  rw [updF_self s.ln i _ (h.len_at hl)] at h1
  exact h1
end Go.Proofs.Ythknkfggpdhdbaa
namespace Go.Proofs.Ythknkfggpdhdbaa
open Go.RowKit

theorem TwinR.held_iff {s : PS} {r : RV} (h : TwinR s r) {k : Nat} (hk : k < s.pool) : (r.L[k]?.map RB.pl) = some 4 ↔ s.pl k = 4 := by
  rw [h.pl k hk]
  exact ⟨Option.some.inj, fun e => by rw [e]⟩
theorem TwinR.bE {s : PS} {r : RV} (h : TwinR s r) (i : Int) : bE r.L i = hE s i := by
  unfold Go.Proofs.Ythknkfggpdhdbaa.bE hE
  rw [h.len]
  by_cases h1 : i < 0 ∨ (s.pool : Int) - 1 < i
  · rw [if_pos h1, if_pos h1]
  · rw [if_neg h1, if_neg h1]
    have hk : i.toNat < s.pool := by omega
    by_cases h2 : s.pl i.toNat = 4
    · rw [if_pos h2, if_pos ((h.held_iff hk).2 h2)]
    · rw [if_neg h2, if_neg (fun e => h2 ((h.held_iff hk).1 e))]
theorem TwinR.sR {s : PS} {r : RV} (h : TwinR s r) (ht : s.tx.length ≤ s.txn) (i n : Int) : sR r i n = sE s i n := by
  unfold Go.Proofs.Ythknkfggpdhdbaa.sR sE hE
  rw [h.qu.count, h.len, h.size, h.tx]
  by_cases h1 : n < 0 ∨ (s.size : Int) < n
  · rw [if_pos (.inr h1), if_pos h1]
  · rw [if_neg h1]
    by_cases h2 : i < 0 ∨ (s.pool : Int) - 1 < i
    · rw [if_pos (.inl h2), if_pos h2, if_neg (by decide)]
    · rw [if_neg (fun e => e.elim h2 h1), if_neg h2]
      have hk : i.toNat < s.pool := by omega
      by_cases h3 : s.pl i.toNat = 4
      · rw [if_pos ((h.held_iff hk).2 h3), if_pos h3, if_pos rfl]
        by_cases h4 : s.tx.length = s.txn
        · rw [if_pos (by omega), if_pos h4]
        · rw [if_neg (by omega), if_neg h4]
      · rw [if_neg (fun e => h3 ((h.held_iff hk).1 e)), if_neg h3, if_neg (by decide)]
theorem TwinR.aR {s : PS} {r : RV} (h : TwinR s r) (hf : s.filled ≤ s.rx.length) (n : Nat) : aR r n = aE s n := by
  unfold Go.Proofs.Ythknkfggpdhdbaa.aR aE
  rw [h.size, h.po.first]
  have e : hdI (s.rx.drop s.filled) < 0 ↔ s.filled = s.rx.length := by
    cases e2 : s.rx.drop s.filled with
    | nil =>
      have := List.drop_eq_nil_iff.1 e2
      exact ⟨fun _ => by omega, fun _ => by show (-1 : Int) < 0; decide⟩
    | cons a l =>
      have := congrArg List.length e2
      rw [List.length_drop, List.length_cons] at this
      exact ⟨fun h' => by have h8 : (a : Int) < 0 := h'; omega, fun _ => by omega⟩
  by_cases h3 : s.filled = s.rx.length
  · rw [if_pos (e.2 h3), if_pos h3]
  · rw [if_neg (fun h' => h3 (e.1 h')), if_neg h3]
end Go.Proofs.Ythknkfggpdhdbaa
