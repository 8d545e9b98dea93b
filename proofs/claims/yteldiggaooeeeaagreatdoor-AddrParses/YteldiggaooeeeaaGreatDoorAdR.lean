/-
  Layer 4: what stands of a text; how a written text of an address is read, in numbers.
-/
import Derived.Test.YteldiggaooeeeaaGreatDoorAdQ
namespace Go.Proofs.YteldiggaooeeeaaGreatDoor
open Go.RowKit

/-- what stands of a text from p on -/
def drp (s : ByteArray) (p : Nat) : List Nat := (s.data.toList.drop p).map UInt8.toNat
theorem drp_len (s : ByteArray) (p : Nat) : (drp s p).length = s.size - p := by
  unfold drp
  rw [List.length_map, List.length_drop]
  rfl
theorem drp_cons {s : ByteArray} {p c : Nat} {l : List Nat} (h : drp s p = c :: l) : sB s p = c ∧ p < s.size ∧ drp s (p + 1) = l := by
  have hl := drp_len s p
  rw [h] at hl
  have hp : p < s.size := by simp at hl; omega
  have hp2 : p < s.data.toList.length := hp
  unfold drp at h
  rw [List.drop_eq_getElem_cons hp2, List.map_cons] at h
  injection h with h1 h2
  refine ⟨?_, hp, h2⟩
  unfold sB
  rw [List.getD_eq_getElem?_getD, List.getElem?_eq_getElem hp2]
  exact h1
theorem drp_nil {s : ByteArray} {p : Nat} (h : drp s p = []) : s.size ≤ p := by
  have hl := drp_len s p
  rw [h] at hl
  simp at hl
  omega
theorem drp_app {s : ByteArray} : ∀ (ds : List Nat) {p : Nat} {l : List Nat}, drp s p = ds ++ l → drp s (p + ds.length) = l
  | [], p, l, h => h
  | d :: ds, p, l, h => by
    have h1 := (drp_cons h).2.2
    have h2 := drp_app ds h1
    rw [List.length_cons, show p + (ds.length + 1) = p + 1 + ds.length by omega]
    exact h2
theorem scP_run {s : ByteArray} {f : Nat → Bool} : ∀ (ds : List Nat) {p : Nat} {l : List Nat}, drp s p = ds ++ l → (∀ d ∈ ds, f d = true) → (∀ c r, l = c :: r → f c = false) → scP s f p = p + ds.length
  | [], p, l, h, _, hl => by
    refine scP_stop ?_
    cases hd : l with
    | nil =>
      rw [hd] at h
      have := drp_nil h
      rw [decide_eq_false (by omega)]
      rfl
    | cons c r =>
      rw [hd] at h
      rw [(drp_cons h).1, hl c r hd]
      simp
  | d :: ds, p, l, h, hd, hl => by
    obtain ⟨h1, h2, h3⟩ := drp_cons h
    rw [scP_step h2 (by rw [h1]; exact hd d (List.mem_cons_self ..)), scP_run ds h3 (fun x hx => hd x (List.mem_cons_of_mem _ hx)) hl, List.length_cons]
    omega

/-- a byte in decimal digits -/
def dec3 (c : Nat) : List Nat := if c < 10 then [48 + c] else if c < 100 then [48 + c / 10, 48 + c % 10] else [48 + c / 100, 48 + c / 10 % 10, 48 + c % 10]
theorem dgB_at {d : Nat} (h : d < 10) : dgB (48 + d) = true := by unfold dgB; rw [decide_eq_true (by omega), decide_eq_true (by omega)]; rfl
theorem dec3_dg {c : Nat} (h : c < 256) : ∀ d ∈ dec3 c, dgB d = true := by
  intro d hd
  unfold dec3 at hd
  split at hd
  · simp at hd; subst hd; exact dgB_at (by omega)
  · split at hd
    · simp at hd; rcases hd with rfl | rfl <;> exact dgB_at (by omega)
    · simp at hd; rcases hd with rfl | rfl | rfl <;> exact dgB_at (by omega)
theorem dcm_k {s : ByteArray} {p q most k : Nat} (h : q - p = k) : dcm s p q most = if decide (3 < k) || (decide (1 < k) && sB s p == 48) then (-1 : Int) else if most < dcN s p k then -1 else ((dcN s p k : Nat) : Int) := by subst h; rfl
theorem beq_add {p n : Nat} (h : 0 < n) : (p + n == p) = false := by rw [beq_eq_false_iff_ne]; omega
theorem dec3_num {s : ByteArray} {p c : Nat} {l : List Nat} (hc : c < 256) (h : drp s p = dec3 c ++ l) (hl : ∀ x r, l = x :: r → dgB x = false) : scP s dgB p = p + (dec3 c).length ∧ 0 < (dec3 c).length ∧ dcm s p (p + (dec3 c).length) 255 = (c : Int) := by
  refine ⟨scP_run _ h (dec3_dg hc) hl, by unfold dec3; split <;> (try split) <;> simp, ?_⟩
  unfold dec3 at h ⊢
  by_cases h1 : c < 10
  · rw [if_pos h1] at h ⊢
    have k := (drp_cons h).1
    rw [dcm_k (k := 1) (by simp)]
    have e : dcN s p 1 = c := by simp [dcN, k]
    rw [e]
    simp
    omega
  · rw [if_neg h1] at h ⊢
    by_cases h2 : c < 100
    · rw [if_pos h2] at h ⊢
      obtain ⟨k0, _, t0⟩ := drp_cons h
      obtain ⟨k1, _, _⟩ := drp_cons t0
      rw [dcm_k (k := 2) (by simp)]
      have e : dcN s p 2 = c := by simp [dcN, k0, k1]; omega
      rw [e, k0]
      have e2 : (48 + c / 10 == 48) = false := by simp; omega
      rw [e2]
      simp
      omega
    · rw [if_neg h2] at h ⊢
      obtain ⟨k0, _, t0⟩ := drp_cons h
      obtain ⟨k1, _, t1⟩ := drp_cons t0
      obtain ⟨k2, _, _⟩ := drp_cons t1
      rw [dcm_k (k := 3) (by simp)]
      have e : dcN s p 3 = c := by simp [dcN, k0, k1, k2]; omega
      rw [e, k0]
      have e2 : (48 + c / 100 == 48) = false := by simp; omega
      rw [e2]
      simp
      omega
def dots (a b c d : Nat) : List Nat := dec3 a ++ 46 :: (dec3 b ++ 46 :: (dec3 c ++ 46 :: dec3 d))
theorem dtd_step {s : ByteArray} {p c m : Nat} {l : List Nat} {g : List Nat} (hc : c < 256) (h : drp s p = dec3 c ++ 46 :: l) : dtd s (m + 2) p g = dtd s (m + 1) (p + (dec3 c).length + 1) (g ++ [c]) ∧ drp s (p + (dec3 c).length + 1) = l := by
  obtain ⟨h1, h2, h3⟩ := dec3_num hc h (fun x r e => by injection e with e1; rw [← e1]; decide)
  have h4 := drp_app _ h
  obtain ⟨h5, h6, h7⟩ := drp_cons h4
  refine ⟨?_, h7⟩
  conv => lhs; unfold dtd
  rw [h1, h3, h5, beq_add h2, if_neg (by decide), if_neg (by simp), if_neg (by simp), decide_eq_false (by omega : ¬ s.size ≤ p + (dec3 c).length), if_neg (by simp)]
  simp
theorem dtd_last {s : ByteArray} {p c : Nat} {g : List Nat} (hc : c < 256) (h : drp s p = dec3 c) : dtd s 1 p g = .inl (g ++ [c]) := by
  have h' : drp s p = dec3 c ++ [] := by rw [List.append_nil]; exact h
  obtain ⟨h1, h2, h3⟩ := dec3_num hc h' (fun x r e => by cases e)
  have h5 := drp_nil (drp_app _ h')
  unfold dtd
  rw [h1, h3, beq_add h2, if_neg (by decide), if_neg (by simp), if_pos (by decide)]
  unfold dtd
  rw [if_neg (by simp; omega)]
  simp
theorem dtd_dots {s : ByteArray} {p a b c d : Nat} (ha : a < 256) (hb : b < 256) (hc : c < 256) (hd : d < 256) (h : drp s p = dots a b c d) : dtd s 4 p [] = .inl [a, b, c, d] := by
  obtain ⟨e1, t1⟩ := dtd_step (m := 2) (g := []) ha h
  obtain ⟨e2, t2⟩ := dtd_step (m := 1) (g := [a]) hb t1
  obtain ⟨e3, t3⟩ := dtd_step (m := 0) (g := [a, b]) hc t2
  rw [e1]
  show dtd s 3 _ [a] = _
  rw [e2]
  show dtd s 2 _ [a, b] = _
  rw [e3]
  exact dtd_last hd t3

/-- the number of hexadecimal digits -/
def valH (ds : List Nat) : Nat := ds.foldl (fun n d => 16 * n + (wth d).toNat) 0
theorem hxN_take {s : ByteArray} {p : Nat} {ds l : List Nat} (h : drp s p = ds ++ l) : ∀ k, k ≤ ds.length → hxN s p k = valH (ds.take k)
  | 0, _ => by simp [hxN, valH]
  | k + 1, hk => by
    have h1 := hxN_take h k (by omega)
    have hlt : k < ds.length := hk
    have h2 : drp s (p + k) = ds[k] :: (ds.drop (k + 1) ++ l) := by
      have h3 : drp s p = ds.take k ++ (ds.drop k ++ l) := by rw [← List.append_assoc, List.take_append_drop]; exact h
      have h4 := drp_app _ h3
      rw [List.length_take, Nat.min_eq_left (by omega), List.drop_eq_getElem_cons hlt] at h4
      exact h4
    unfold hxN
    rw [(drp_cons h2).1, h1, List.take_succ_eq_append_getElem hlt]
    unfold valH
    rw [List.foldl_append]
    rfl
theorem hxN_run {s : ByteArray} {p : Nat} {ds l : List Nat} (h : drp s p = ds ++ l) : hxN s p ds.length = valH ds := by
  rw [hxN_take h _ (Nat.le_refl _), List.take_length]

/-- a group's digits -/
structure Grp (ds : List Nat) (v : Nat) : Prop where
  lo : 0 < ds.length
  hi : ds.length ≤ 4
  hx : ∀ d ∈ ds, hxB d = true
  v : valH ds = v
theorem hx58 : hxB 58 = false := by decide
theorem hx46 : hxB 46 = false := by decide
theorem grp_at {s : ByteArray} {X : SX} {ds l : List Nat} {v : Nat} (_he : X.er = 0) (h : drp s X.p = ds ++ l) (hg : Grp ds v) (hl : l = [] ∨ ∃ r, l = 58 :: r) (hr : X.g.length + 1 ≤ rmN X) :
    grp s X = ({ X with g := X.g ++ [v], p := X.p + ds.length }, l.isEmpty) := by
  have hq : scP s hxB X.p = X.p + ds.length := scP_run _ h hg.hx (by
    intro c r e
    rcases hl with rfl | ⟨r', rfl⟩
    · cases e
    · injection e with e1
      rw [← e1]
      exact hx58)
  have h2 := drp_app _ h
  have ht : tlB s X (X.p + ds.length) = false := by
    unfold tlB
    rcases hl with rfl | ⟨r', rfl⟩
    · have := drp_nil h2
      rw [decide_eq_false (by omega)]
      rfl
    · rw [(drp_cons h2).1]
      simp
  have hlo := hg.lo
  have hhi := hg.hi
  have hle : (X.p + ds.length == s.size) = l.isEmpty := by
    have hh := drp_len s (X.p + ds.length)
    rw [h2] at hh
    have hh0 := drp_len s X.p
    rw [h] at hh0
    rcases hl with rfl | ⟨r', rfl⟩
    · simp at hh hh0 ⊢; omega
    · simp at hh hh0 ⊢; omega
  unfold grp grpq
  rw [hq, ht, beq_add hlo, if_neg (by decide), decide_eq_false (by simp; omega : ¬ rmN X < X.g.length + (if false = true then 2 else 1)), if_neg (by decide), if_neg (by decide), decide_eq_false (by omega : ¬ 4 < X.p + ds.length - X.p), if_neg (by decide), hle, Nat.add_sub_cancel_left, hxN_run h, hg.v]
theorem hx_dg {d : Nat} (h : dgB d = true) : hxB d = true := by
  unfold hxB wth
  rw [if_pos h]
  simp [dgB] at h
  simp
  omega
theorem grp_dots {s : ByteArray} {X : SX} {a b c d : Nat} (ha : a < 256) (hb : b < 256) (hc : c < 256) (hd : d < 256) (_he : X.er = 0) (h : drp s X.p = dots a b c d) (hp : 0 < X.p) (hr : X.g.length + 2 ≤ rmN X) :
    grp s X = ({ X with g := X.g ++ [256 * a + b, 256 * c + d], p := s.size }, true) := by
  have hq : scP s hxB X.p = X.p + (dec3 a).length := scP_run (dec3 a) h (fun d hd => hx_dg (dec3_dg ha d hd)) (by
    intro c r e
    injection e with e1
    rw [← e1]
    exact hx46)
  obtain ⟨h5, h6, h7⟩ := drp_cons (drp_app _ h)
  have ht : tlB s X (X.p + (dec3 a).length) = true := by
    unfold tlB
    rw [h5, decide_eq_true h6, decide_eq_true hp]
    rfl
  have hn : 0 < (dec3 a).length := by unfold dec3; split <;> (try split) <;> simp
  unfold grp grpq
  rw [hq, ht, beq_add hn, if_neg (by decide), decide_eq_false (by simp; omega : ¬ rmN X < X.g.length + (if true = true then 2 else 1)), if_neg (by decide), if_pos rfl, dtd_dots ha hb hc hd h]
  rfl
/-- a group behind which another stands -/
theorem rnd_next {s : ByteArray} {X : SX} {ds l : List Nat} {v : Nat} (he : X.er = 0) (h : drp s X.p = ds ++ 58 :: l) (hg : Grp ds v) (hl : ∀ r, l ≠ 58 :: r) (hr : X.g.length + 1 ≤ rmN X) :
    rnd s X = ({ X with g := X.g ++ [v], p := X.p + ds.length + 1 }, false) ∧ drp s (X.p + ds.length + 1) = l := by
  have hgr := grp_at he h hg (.inr ⟨l, rfl⟩) hr
  obtain ⟨h5, h6, h7⟩ := drp_cons (drp_app _ h)
  refine ⟨?_, h7⟩
  have htw : twB s (X.p + ds.length) = false := by
    unfold twB
    cases hd : l with
    | nil =>
      rw [hd] at h7
      have := drp_nil h7
      rw [decide_eq_false (by omega)]
      rfl
    | cons c r =>
      rw [hd] at h7
      rw [(drp_cons h7).1]
      have : c ≠ 58 := fun e => hl r (by rw [hd, e])
      simp [this]
  unfold rnd
  rw [hgr]
  simp only [List.isEmpty_cons, he]
  rw [if_pos (by decide)]
  unfold btw
  rw [htw, h5]
  rfl
/-- a group behind which the :: stands -/
theorem rnd_gap {s : ByteArray} {X : SX} {ds l : List Nat} {v : Nat} (he : X.er = 0) (h : drp s X.p = ds ++ 58 :: 58 :: l) (hg : Grp ds v) (hgap : X.gap = -1) (hr : X.g.length + 1 < 8) :
    rnd s X = ({ X with g := X.g ++ [v], gap := ((X.g.length + 1 : Nat) : Int), p := X.p + ds.length + 2 }, l.isEmpty) ∧ drp s (X.p + ds.length + 2) = l := by
  have hrm : rmN X = 8 := by unfold rmN; rw [hgap]; rfl
  have hgr := grp_at he h hg (.inr ⟨58 :: l, rfl⟩) (by omega)
  obtain ⟨h5, h6, h7⟩ := drp_cons (drp_app _ h)
  obtain ⟨h8, h9, h10⟩ := drp_cons h7
  refine ⟨?_, h10⟩
  have htw : twB s (X.p + ds.length) = true := by
    unfold twB
    rw [h5, h8, decide_eq_true h9]
    rfl
  have hle : (X.p + ds.length + 2 == s.size) = l.isEmpty := by
    have hh := drp_len s (X.p + ds.length + 1 + 1)
    rw [h10] at hh
    cases l with
    | nil => simp at hh ⊢; omega
    | cons c r => simp at hh ⊢; omega
  unfold rnd
  rw [hgr]
  simp only [List.isEmpty_cons, he]
  rw [if_pos (by decide)]
  unfold btw
  rw [htw, if_pos rfl, if_neg (by simp [hgap]; omega), hle]
  simp
theorem rnd_end {s : ByteArray} {X : SX} {ds : List Nat} {v : Nat} (he : X.er = 0) (h : drp s X.p = ds) (hg : Grp ds v) (hr : X.g.length + 1 ≤ rmN X) :
    rnd s X = ({ X with g := X.g ++ [v], p := X.p + ds.length }, true) := by
  have hgr := grp_at he (l := []) (by rw [List.append_nil]; exact h) hg (.inl rfl) hr
  unfold rnd
  rw [hgr]
  rfl
theorem rnd_dots {s : ByteArray} {X : SX} {a b c d : Nat} (ha : a < 256) (hb : b < 256) (hc : c < 256) (hd : d < 256) (he : X.er = 0) (h : drp s X.p = dots a b c d) (hp : 0 < X.p) (hr : X.g.length + 2 ≤ rmN X) :
    rnd s X = ({ X with g := X.g ++ [256 * a + b, 256 * c + d], p := s.size }, true) := by
  unfold rnd
  rw [grp_dots ha hb hc hd he h hp hr]
  rfl

/-- texts with a : between -/
def jn : List (List Nat) → List Nat
  | [] => []
  | a :: r => match r with
    | [] => a
    | b :: t => a ++ 58 :: jn (b :: t)
theorem jn_two (a b : List Nat) (t : List (List Nat)) : jn (a :: b :: t) = a ++ 58 :: jn (b :: t) := rfl
theorem jn_one (a : List Nat) : jn [a] = a := rfl
/-- the digits of groups, and their numbers -/
def Gs (G : List (List Nat × Nat)) : Prop := ∀ x ∈ G, Grp x.1 x.2
theorem hx_ne {ds : List Nat} {v : Nat} (h : Grp ds v) : ∃ c r, ds = c :: r ∧ c ≠ 58 := by
  cases hd : ds with
  | nil => have := h.lo; rw [hd] at this; simp at this
  | cons c r => exact ⟨c, r, rfl, fun e => by have h2 := h.hx c (by rw [hd]; exact List.mem_cons_self ..); rw [e, hx58] at h2; cases h2⟩
theorem jn_head {G : List (List Nat × Nat)} {g : List Nat × Nat} (h : Gs (g :: G)) (tl : List (List Nat)) (l : List Nat) : ∀ r, jn ((g :: G).map Prod.fst ++ tl) ++ l ≠ 58 :: r := by
  intro r e
  obtain ⟨c, q, hc, hne⟩ := hx_ne (h g (List.mem_cons_self ..))
  rw [List.map_cons, List.cons_append] at e
  cases hm : G.map Prod.fst ++ tl with
  | nil => rw [hm, jn_one, hc] at e; injection e with e1; exact hne e1
  | cons b t => rw [hm, jn_two, hc] at e; injection e with e1; exact hne e1
def SX.put (X : SX) (L : List Nat) (q : Nat) : SX := { X with g := X.g ++ L, p := q }
theorem SX.put_put (X : SX) (L M : List Nat) (q r : Nat) : (X.put L q).put M r = X.put (L ++ M) r := by unfold SX.put; simp
theorem rmN_put (X : SX) (L : List Nat) (q : Nat) : rmN (X.put L q) = rmN X := rfl
theorem slp_go (s : ByteArray) (f : Nat) {X : SX} (he : X.er = 0) : slp s (f + 1) (X, false) = slp s f (rnd s X) := by
  conv => lhs; unfold slp
  simp [he]
/-- groups up to the text's end -/
theorem run_end {s : ByteArray} (f : Nat) : ∀ (G : List (List Nat × Nat)) (g : List Nat × Nat) (X : SX), Gs (g :: G) → X.er = 0 → drp s X.p = jn ((g :: G).map Prod.fst) → X.g.length + (G.length + 1) ≤ rmN X →
    ∃ q, slp s (f + (G.length + 1)) (X, false) = X.put ((g :: G).map Prod.snd) q
  | [], g, X, hG, he, h, hr => by
    refine ⟨X.p + g.1.length, ?_⟩
    rw [show f + (([] : List (List Nat × Nat)).length + 1) = f + 1 from rfl, slp_go s f he, rnd_end he h (hG g (List.mem_cons_self ..)) hr, slp_end (by rfl)]
    rfl
  | g2 :: G, g, X, hG, he, h, hr => by
    rw [List.map_cons, List.map_cons, jn_two] at h
    obtain ⟨h1, h2⟩ := rnd_next he h (hG g (List.mem_cons_self ..)) (by
      intro r
      have := jn_head (G := G) (g := g2) (fun x hx => hG x (List.mem_cons_of_mem _ hx)) [] [] r
      simpa using this) (by simp at hr; omega)
    obtain ⟨q, hq⟩ := run_end f G g2 (X.put [g.2] (X.p + g.1.length + 1)) (fun x hx => hG x (List.mem_cons_of_mem _ hx)) he h2 (by
      show (X.g ++ [g.2]).length + _ ≤ rmN X
      simp at hr ⊢; omega)
    refine ⟨q, ?_⟩
    rw [List.length_cons, show f + (G.length + 1 + 1) = f + (G.length + 1) + 1 by omega, slp_go s _ he, h1]
    refine hq.trans ?_
    rw [SX.put_put]
    rfl
/-- groups up to the :: -/
theorem run_gap {s : ByteArray} (f : Nat) (l : List Nat) : ∀ (G : List (List Nat × Nat)) (g : List Nat × Nat) (X : SX), Gs (g :: G) → X.er = 0 → X.gap = -1 → drp s X.p = jn ((g :: G).map Prod.fst) ++ 58 :: 58 :: l → X.g.length + (G.length + 1) < 8 →
    ∃ q, slp s (f + (G.length + 1)) (X, false) = slp s f ({ X.put ((g :: G).map Prod.snd) q with gap := ((X.g.length + (G.length + 1) : Nat) : Int) }, l.isEmpty) ∧ drp s q = l ∧ 0 < q
  | [], g, X, hG, he, hgap, h, hr => by
    obtain ⟨h1, h2⟩ := rnd_gap he h (hG g (List.mem_cons_self ..)) hgap hr
    refine ⟨X.p + g.1.length + 2, ?_, h2, by omega⟩
    rw [show f + (([] : List (List Nat × Nat)).length + 1) = f + 1 from rfl, slp_go s f he, h1]
    rfl
  | g2 :: G, g, X, hG, he, hgap, h, hr => by
    rw [List.map_cons, List.map_cons, jn_two, List.append_assoc, List.cons_append] at h
    obtain ⟨h1, h2⟩ := rnd_next he h (hG g (List.mem_cons_self ..)) (by
      intro r
      have := jn_head (G := G) (g := g2) (fun x hx => hG x (List.mem_cons_of_mem _ hx)) [] (58 :: 58 :: l) r
      simpa using this) (by have : rmN X = 8 := by (unfold rmN; rw [hgap]; rfl)
                            simp at hr; omega)
    obtain ⟨q, hq, hd, h0⟩ := run_gap f l G g2 (X.put [g.2] (X.p + g.1.length + 1)) (fun x hx => hG x (List.mem_cons_of_mem _ hx)) he hgap h2 (by
      show (X.g ++ [g.2]).length + _ < 8
      simp at hr ⊢; omega)
    refine ⟨q, ?_, hd, h0⟩
    rw [List.length_cons, show f + (G.length + 1 + 1) = f + (G.length + 1) + 1 by omega, slp_go s _ he, h1]
    refine hq.trans ?_
    rw [SX.put_put]
    have : (X.put [g.2] (X.p + g.1.length + 1)).g.length + (G.length + 1) = X.g.length + (G.length + 1 + 1) := by
      show (X.g ++ [g.2]).length + _ = _
      simp; omega
    rw [this]
    rfl
/-- groups, then a tail of version 4 up to the end -/
theorem run_dots {s : ByteArray} (f : Nat) {a b c d : Nat} (ha : a < 256) (hb : b < 256) (hc : c < 256) (hd : d < 256) : ∀ (G : List (List Nat × Nat)) (X : SX), Gs G → X.er = 0 → drp s X.p = jn (G.map Prod.fst ++ [dots a b c d]) → X.g.length + (G.length + 2) ≤ rmN X → 0 < X.p + G.length →
    ∃ q, slp s (f + (G.length + 1)) (X, false) = X.put (G.map Prod.snd ++ [256 * a + b, 256 * c + d]) q
  | [], X, hG, he, h, hr, h0 => by
    refine ⟨s.size, ?_⟩
    rw [show f + (([] : List (List Nat × Nat)).length + 1) = f + 1 from rfl, slp_go s f he, rnd_dots ha hb hc hd he h (by simpa using h0) hr, slp_end (by rfl)]
    rfl
  | g :: G, X, hG, he, h, hr, h0 => by
    have hj : jn ((g :: G).map Prod.fst ++ [dots a b c d]) = g.1 ++ 58 :: jn (G.map Prod.fst ++ [dots a b c d]) := by
      rw [List.map_cons, List.cons_append]
      cases hm : G.map Prod.fst ++ [dots a b c d] with
      | nil => simp at hm
      | cons x t => rfl
    rw [hj] at h
    obtain ⟨h1, h2⟩ := rnd_next he h (hG g (List.mem_cons_self ..)) (by
      intro r e
      cases G with
      | nil =>
        rw [List.map_nil, List.nil_append, jn_one] at e
        have : dgB 58 = true := by
          unfold dots at e
          have hh := dec3_dg ha
          cases hda : dec3 a with
          | nil => rw [hda] at e; injection e with e1; cases e1
          | cons y t => rw [hda] at e; injection e with e1; rw [← e1]; exact hh y (by rw [hda]; exact List.mem_cons_self ..)
        cases this
      | cons g2 G =>
        exact jn_head (G := G) (g := g2) (fun x hx => hG x (List.mem_cons_of_mem _ hx)) [dots a b c d] [] r (by simpa using e)) (by simp at hr; omega)
    obtain ⟨q, hq⟩ := run_dots f ha hb hc hd G (X.put [g.2] (X.p + g.1.length + 1)) (fun x hx => hG x (List.mem_cons_of_mem _ hx)) he h2 (by
      show (X.g ++ [g.2]).length + _ ≤ rmN X
      simp at hr ⊢; omega) (by show 0 < X.p + g.1.length + 1 + G.length; omega)
    refine ⟨q, ?_⟩
    rw [List.length_cons, show f + (G.length + 1 + 1) = f + (G.length + 1) + 1 by omega, slp_go s _ he, h1]
    refine hq.trans ?_
    rw [SX.put_put]
    rfl

theorem jn_len : ∀ (L : List (List Nat)), (∀ a ∈ L, 0 < a.length) → L.length ≤ (jn L).length
  | [], _ => by simp
  | [a], h => by rw [jn_one]; exact h a (List.mem_cons_self ..)
  | a :: b :: t, h => by
    have h1 := jn_len (b :: t) (fun x hx => h x (List.mem_cons_of_mem _ hx))
    have h2 := h a (List.mem_cons_self ..)
    rw [jn_two]
    simp only [List.length_append, List.length_cons] at h1 ⊢
    omega
theorem jn_max (m : Nat) : ∀ (L : List (List Nat)), (∀ a ∈ L, a.length ≤ m) → (jn L).length ≤ (m + 1) * L.length
  | [], _ => by simp [jn]
  | [a], h => by have := h a (List.mem_cons_self ..); rw [jn_one]; simp; omega
  | a :: b :: t, h => by
    have h1 := jn_max m (b :: t) (fun x hx => h x (List.mem_cons_of_mem _ hx))
    have h2 := h a (List.mem_cons_self ..)
    rw [jn_two, List.length_append, List.length_cons]
    rw [List.length_cons (a := a), Nat.mul_add]
    omega
def dl : Option (Nat × Nat × Nat × Nat) → List (List Nat)
  | none => []
  | some (a, b, c, d) => [dots a b c d]
def dv : Option (Nat × Nat × Nat × Nat) → List Nat
  | none => []
  | some (a, b, c, d) => [256 * a + b, 256 * c + d]
def dOk (t : Option (Nat × Nat × Nat × Nat)) : Prop := ∀ a b c d, t = some (a, b, c, d) → a < 256 ∧ b < 256 ∧ c < 256 ∧ d < 256
theorem dec3_pos (c : Nat) : 0 < (dec3 c).length := by unfold dec3; split <;> (try split) <;> simp
theorem dec3_hi (c : Nat) : (dec3 c).length ≤ 3 := by unfold dec3; split <;> (try split) <;> simp
theorem dots_pos (a b c d : Nat) : 0 < (dots a b c d).length := by unfold dots; simp; omega
theorem dots_hi (a b c d : Nat) : (dots a b c d).length ≤ 15 := by
  have h1 := dec3_hi a
  have h2 := dec3_hi b
  have h3 := dec3_hi c
  have h4 := dec3_hi d
  unfold dots
  simp
  omega
theorem sx0_flat {s : ByteArray} {L : List Nat} (h : drp s 0 = L) (hl : ∀ r, L ≠ 58 :: r) : sx0 s = (⟨[], -1, 0, 0, 0⟩, false) := by
  unfold sx0
  have : twB s 0 = false := by
    unfold twB
    cases hL : L with
    | nil =>
      rw [hL] at h
      have := drp_nil h
      rw [decide_eq_false (by omega)]
      rfl
    | cons c r =>
      rw [hL] at h
      rw [(drp_cons h).1]
      have : c ≠ 58 := fun e => hl r (by rw [hL, e])
      simp [this]
  rw [this]
  rfl
theorem sx0_gap {s : ByteArray} {l : List Nat} (h : drp s 0 = 58 :: 58 :: l) : sx0 s = (⟨[], 0, 2, 0, 0⟩, l.isEmpty) ∧ drp s 2 = l := by
  obtain ⟨h1, h2, h3⟩ := drp_cons h
  obtain ⟨h4, h5, h6⟩ := drp_cons h3
  refine ⟨?_, h6⟩
  unfold sx0
  have : twB s 0 = true := by unfold twB; rw [h1, h4, decide_eq_true h5]; rfl
  rw [this]
  have hh := drp_len s (0 + 1 + 1)
  rw [h6] at hh
  have : (s.size == 2) = l.isEmpty := by
    cases l with
    | nil => simp at hh ⊢; omega
    | cons c r => simp at hh ⊢; omega
  rw [this]
  rfl
/-- what follows a gap (or the text's beginning), to the end -/
theorem run_rest {s : ByteArray} (f : Nat) (G : List (List Nat × Nat)) (t : Option (Nat × Nat × Nat × Nat)) (X : SX) (hG : Gs G) (ht : dOk t) (he : X.er = 0) (h : drp s X.p = jn (G.map Prod.fst ++ dl t)) (hr : X.g.length + (G.length + (dv t).length) ≤ rmN X) (h0 : 0 < X.p + G.length) :
    ∃ q, slp s (f + (G.length + 1)) (X, (jn (G.map Prod.fst ++ dl t)).isEmpty) = X.put (G.map Prod.snd ++ dv t) q := by
  cases t with
  | none =>
    rw [show dl none = [] from rfl, List.append_nil] at h ⊢
    cases G with
    | nil =>
      refine ⟨X.p, ?_⟩
      rw [slp_end (by rfl)]
      simp [SX.put, dv]
    | cons g G =>
      obtain ⟨q, hq⟩ := run_end (f + 1) G g X hG he h (by simpa [dv] using hr)
      refine ⟨q, ?_⟩
      have hj := jn_head (G := G) (g := g) hG [] []
      have hne : (jn ((g :: G).map Prod.fst)).isEmpty = false := by
        obtain ⟨c, r, hc, _⟩ := hx_ne (hG g (List.mem_cons_self ..))
        rw [List.map_cons]
        cases hm : G.map Prod.fst with
        | nil => rw [jn_one, hc]; rfl
        | cons b t => rw [jn_two, hc]; rfl
      rw [hne, List.length_cons, show f + (G.length + 1 + 1) = f + 1 + (G.length + 1) by omega, hq]
      simp [dv]
  | some t =>
    obtain ⟨a, b, c, d⟩ := t
    obtain ⟨ha, hb, hc, hd⟩ := ht a b c d rfl
    obtain ⟨q, hq⟩ := run_dots f ha hb hc hd G X hG he h hr h0
    refine ⟨q, ?_⟩
    have hne : (jn (G.map Prod.fst ++ dl (some (a, b, c, d)))).isEmpty = false := by
      have hl := jn_len (G.map Prod.fst ++ dl (some (a, b, c, d))) (by
        intro x hx
        simp [dl] at hx
        rcases hx with ⟨y, hy⟩ | rfl
        · exact (hG _ hy).lo
        · exact dots_pos _ _ _ _)
      cases hj : jn (G.map Prod.fst ++ dl (some (a, b, c, d))) with
      | nil => rw [hj] at hl; simp [dl] at hl
      | cons _ _ => rfl
    rw [hne]
    exact hq
theorem text_lo {G : List (List Nat × Nat)} (hG : Gs G) (t : Option (Nat × Nat × Nat × Nat)) : G.length ≤ (jn (G.map Prod.fst ++ dl t)).length := by
  have h := jn_len (G.map Prod.fst ++ dl t) (by
    intro x hx
    rw [List.mem_append] at hx
    rcases hx with hx | hx
    · obtain ⟨y, hy, rfl⟩ := List.mem_map.1 hx
      exact (hG y hy).lo
    · cases t with
      | none => cases hx
      | some t =>
        obtain ⟨a, b, c, d⟩ := t
        simp [dl] at hx
        subst hx
        exact dots_pos _ _ _ _)
  rw [List.length_append, List.length_map] at h
  omega
/-- no gap -/
theorem sx_flat {s : ByteArray} {g : List Nat × Nat} {G : List (List Nat × Nat)} {t : Option (Nat × Nat × Nat × Nat)} (hG : Gs (g :: G)) (ht : dOk t) (h : drp s 0 = jn ((g :: G).map Prod.fst ++ dl t)) (hr : G.length + 1 + (dv t).length ≤ 8) :
    (sxL s).er = 0 ∧ (sxL s).gap = -1 ∧ (sxL s).g = (g :: G).map Prod.snd ++ dv t := by
  have h1 := sx0_flat h (fun r => by have := jn_head hG (dl t) [] r; rw [List.append_nil] at this; exact this)
  have hlo := text_lo hG t
  have hl := drp_len s 0
  rw [h] at hl
  obtain ⟨q, hq⟩ := run_rest (s := s) (s.size + 1 - (G.length + 2)) (g :: G) t ⟨[], -1, 0, 0, 0⟩ hG ht rfl h (by simp [rmN]; omega) (by simp)
  have hne : (jn ((g :: G).map Prod.fst ++ dl t)).isEmpty = false := by
    cases hj : jn ((g :: G).map Prod.fst ++ dl t) with
    | nil => rw [hj] at hlo; simp at hlo
    | cons _ _ => rfl
  rw [hne] at hq
  unfold sxL
  rw [h1, show s.size + 1 = s.size + 1 - (G.length + 2) + ((g :: G).length + 1) by simp at hlo hl ⊢; omega, hq]
  exact ⟨rfl, rfl, by simp [SX.put]⟩
/-- a gap -/
theorem sx_gap {s : ByteArray} {G M : List (List Nat × Nat)} {t : Option (Nat × Nat × Nat × Nat)} (hG : Gs G) (hM : Gs M) (ht : dOk t) (h : drp s 0 = jn (G.map Prod.fst) ++ 58 :: 58 :: jn (M.map Prod.fst ++ dl t)) (hr : G.length + M.length + (dv t).length ≤ 7) :
    (sxL s).er = 0 ∧ (sxL s).gap = (G.length : Int) ∧ (sxL s).g = G.map Prod.snd ++ M.map Prod.snd ++ dv t := by
  have hlo := text_lo hG none
  have hlo2 := text_lo hM t
  have hl := drp_len s 0
  rw [h] at hl
  rw [show dl none = [] from rfl, List.append_nil] at hlo
  simp only [List.length_append, List.length_cons] at hl
  cases G with
  | nil =>
    obtain ⟨h1, h2⟩ := sx0_gap (by simpa [jn] using h)
    obtain ⟨q, hq⟩ := run_rest (s := s) (s.size + 1 - (M.length + 1)) M t ⟨[], 0, 2, 0, 0⟩ hM ht rfl h2 (by simp [rmN] at hr ⊢; omega) (by show 0 < 2 + M.length; omega)
    unfold sxL
    rw [h1, show s.size + 1 = s.size + 1 - (M.length + 1) + (M.length + 1) by omega, hq]
    exact ⟨rfl, rfl, by simp [SX.put]⟩
  | cons g G =>
    have h1 := sx0_flat h (fun r => by have := jn_head hG [] (58 :: 58 :: jn (M.map Prod.fst ++ dl t)) r; rw [List.append_nil] at this; exact this)
    obtain ⟨q, hq, hd, h0⟩ := run_gap (s := s) (s.size + 1 - (G.length + 1)) (jn (M.map Prod.fst ++ dl t)) G g ⟨[], -1, 0, 0, 0⟩ hG rfl rfl h (by simp at hr ⊢; omega)
    obtain ⟨Y, hY⟩ : ∃ Y : SX, Y = { (SX.put ⟨[], -1, 0, 0, 0⟩ ((g :: G).map Prod.snd) q) with gap := ((([] : List Nat).length + (G.length + 1) : Nat) : Int) } := ⟨_, rfl⟩
    have yg : Y.g = (g :: G).map Prod.snd := by rw [hY]; simp [SX.put]
    have ygap : Y.gap = ((G.length + 1 : Nat) : Int) := by rw [hY]; simp
    have yer : Y.er = 0 := by rw [hY]; rfl
    have yp : Y.p = q := by rw [hY]; rfl
    have hlo' := hlo
    rw [List.length_cons] at hlo'
    have yr : rmN Y = 7 := by unfold rmN; rw [ygap, decide_eq_true (by omega)]; rfl
    obtain ⟨q2, hq2⟩ := run_rest (s := s) (s.size + 1 - (G.length + 1) - (M.length + 1)) M t Y hM ht yer (by rw [yp]; exact hd) (by rw [yg, yr]; simp at hr ⊢; omega) (by omega)
    unfold sxL
    rw [h1, show s.size + 1 = s.size + 1 - (G.length + 1) + (G.length + 1) by omega, hq, ← hY, show s.size + 1 - (G.length + 1) = s.size + 1 - (G.length + 1) - (M.length + 1) + (M.length + 1) by omega, hq2]
    refine ⟨yer, by show Y.gap = _; rw [ygap]; simp, ?_⟩
    show Y.g ++ _ = _
    rw [yg, List.append_assoc]
theorem kI_lt {X : SX} {i : Nat} (_hl : X.g.length ≤ 8) (hi : i < X.g.length) : kI X i < 8 := by unfold kI; split <;> omega
theorem kI_inj {X : SX} {i j : Nat} (_hl : X.g.length ≤ 8) (h : kI X i = kI X j) : i = j := by
  unfold kI at h
  by_cases h1 : 0 ≤ X.gap ∧ X.gap ≤ (i : Int)
  · rw [if_pos (by simp [h1])] at h
    by_cases h2 : 0 ≤ X.gap ∧ X.gap ≤ (j : Int)
    · rw [if_pos (by simp [h2])] at h; omega
    · rw [if_neg (by simp; omega)] at h; omega
  · rw [if_neg (by simp; omega)] at h
    by_cases h2 : 0 ≤ X.gap ∧ X.gap ≤ (j : Int)
    · rw [if_pos (by simp [h2])] at h; omega
    · rw [if_neg (by simp; omega)] at h; omega
theorem fil_spec {X : SX} (hl : X.g.length ≤ 8) : ∀ N, (∀ i, i < N → fil X N (2 * kI X i) = X.g.getD i 0 / 256 ∧ fil X N (2 * kI X i + 1) = X.g.getD i 0 % 256) ∧ ∀ k, (∀ i, i < N → k / 2 ≠ kI X i) → fil X N k = 0
  | 0 => ⟨fun i hi => by omega, fun k _ => rfl⟩
  | N + 1 => by
    obtain ⟨h1, h2⟩ := fil_spec hl N
    refine ⟨fun i hi => ?_, fun k hk => ?_⟩
    · by_cases hN : i = N
      · subst hN
        unfold fil up1
        refine ⟨?_, by rw [if_pos rfl]⟩
        rw [if_neg (by omega), if_pos rfl]
      · have hne : kI X i ≠ kI X N := fun e => hN (kI_inj hl e)
        obtain ⟨a1, a2⟩ := h1 i (by omega)
        unfold fil up1
        rw [if_neg (by omega), if_neg (by omega), if_neg (by omega), if_neg (by omega)]
        exact ⟨a1, a2⟩
    · have := hk N (by omega)
      unfold fil up1
      rw [if_neg (by omega), if_neg (by omega)]
      exact h2 k (fun i hi => hk i (by omega))
/-- the bytes are those that the groups say -/
theorem fil_bytes {X : SX} {x : Nat → Nat} (hl : X.g.length ≤ 8) (hx : ∀ k, k < 16 → x k < 256) (h1 : ∀ i, i < X.g.length → X.g.getD i 0 = 256 * x (2 * kI X i) + x (2 * kI X i + 1)) (h2 : ∀ j, j < 8 → (∀ i, i < X.g.length → j ≠ kI X i) → x (2 * j) = 0 ∧ x (2 * j + 1) = 0) : ∀ k, k < 16 → fil X X.g.length k = x k := by
  intro k hk
  obtain ⟨a, b⟩ := fil_spec hl X.g.length
  by_cases he : ∃ i, i < X.g.length ∧ k / 2 = kI X i
  · obtain ⟨i, hi, hki⟩ := he
    obtain ⟨a1, a2⟩ := a i hi
    rw [h1 i hi] at a1 a2
    have hlt := kI_lt hl hi
    have b1 := hx (2 * kI X i + 1) (by omega)
    by_cases hk2 : k % 2 = 0
    · have : k = 2 * kI X i := by omega
      rw [this, a1]; omega
    · have : k = 2 * kI X i + 1 := by omega
      rw [this, a2]; omega
  · have h3 : ∀ i, i < X.g.length → k / 2 ≠ kI X i := fun i hi e => he ⟨i, hi, e⟩
    rw [b k h3]
    have h4 := h2 (k / 2) (by omega) h3
    by_cases hk2 : k % 2 = 0
    · rw [show k = 2 * (k / 2) by omega]; exact h4.1.symm
    · rw [show k = 2 * (k / 2) + 1 by omega]; exact h4.2.symm
/-- ParseIP in numbers: the error and its place, or the version and the bytes -/
def pIP (s : ByteArray) : Sum (Int × (Nat → Nat)) (Nat × Nat) :=
  if 45 < s.size then .inr (2, 45) else
  if hsB s 58 then (if (sxL s).er ≠ 0 then .inr ((sxL s).er, (sxL s).pl) else if (sxL s).gap < 0 ∧ (sxL s).g.length < 8 then .inr (42, s.size) else .inl (6, fil (sxL s) (sxL s).g.length)) else
  match dtd s 4 0 [] with
  | .inr e => .inr e
  | .inl l => .inl (4, fun i => l.getD i 0)
def gx (x : Nat → Nat) (k : Nat) : Nat := 256 * x (2 * k) + x (2 * k + 1)
/-- the groups from a up to b, written with the digits D -/
def gl (D : Nat → List Nat) (x : Nat → Nat) (a b : Nat) : List (List Nat × Nat) := (List.range' a (b - a)).map fun k => (D k, gx x k)
def tx (x : Nat → Nat) (tail : Bool) : Option (Nat × Nat × Nat × Nat) := if tail then some (x 12, x 13, x 14, x 15) else none
def nT (tail : Bool) : Nat := if tail then 6 else 8
/-- the text: groups i up to j left out, if there are any -/
def txt (D : Nat → List Nat) (x : Nat → Nat) (i j : Nat) (tail : Bool) : List Nat :=
  if i < j then jn ((gl D x 0 i).map Prod.fst) ++ 58 :: 58 :: jn ((gl D x j (nT tail)).map Prod.fst ++ dl (tx x tail)) else jn ((gl D x 0 (nT tail)).map Prod.fst ++ dl (tx x tail))
theorem gl_len (D : Nat → List Nat) (x : Nat → Nat) (a b : Nat) : (gl D x a b).length = b - a := by unfold gl; simp
theorem gl_gs {D : Nat → List Nat} {x : Nat → Nat} {a b n : Nat} (hD : ∀ k, k < n → Grp (D k) (gx x k)) (hb : b ≤ n) : Gs (gl D x a b) := by
  intro y hy
  unfold gl at hy
  obtain ⟨k, hk, rfl⟩ := List.mem_map.1 hy
  rw [List.mem_range'] at hk
  obtain ⟨z, hz, rfl⟩ := hk
  exact hD _ (by omega)
theorem gl_get (D : Nat → List Nat) (x : Nat → Nat) {a b i : Nat} (h : i < b - a) : ((gl D x a b).map Prod.snd).getD i 0 = gx x (a + i) := by
  unfold gl
  rw [List.getD_eq_getElem?_getD, List.map_map]
  simp [h]
theorem jn_col {L : List (List Nat)} (h : 2 ≤ L.length) : 58 ∈ jn L := by
  cases L with
  | nil => simp at h
  | cons a t => cases t with
    | nil => simp at h
    | cons b t => rw [jn_two]; simp
theorem hsB_mem {s : ByteArray} {c : Nat} (h : c ∈ drp s 0) : hsB s c = true := by
  obtain ⟨i, hi⟩ := List.mem_iff_getElem?.1 h
  unfold drp at hi
  rw [List.drop_zero, List.getElem?_map] at hi
  cases hh : s.data.toList[i]? with
  | none => rw [hh] at hi; cases hi
  | some u =>
    rw [hh] at hi
    have hlt : i < s.data.toList.length := (List.getElem?_eq_some_iff.1 hh).1
    refine hsB_true (k := i) hlt ?_
    unfold sB
    rw [List.getD_eq_getElem?_getD, hh]
    simpa using hi
end Go.Proofs.YteldiggaooeeeaaGreatDoor
