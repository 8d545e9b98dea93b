/-
  Layer 18: many queues under way, each beside the document's own.
-/
import Derived.Test.YtcdbhkihbfjedaaQL2
namespace Go.Proofs.Ytcdbhkihbfjedaa
open Go.RowKit Go.ChangeShapes Go.WideShapes

def sdL (s : SV) : List Value := (sdA s).toList
theorem sdL_len (s : SV) : (sdL s).length = 4 := rfl
theorem sdL_one (s : SV) : ∀ u ∈ sdL s, u.oneCell' = true := by simp [sdL, sdA, Value.oneCell']
theorem info_sd : Info 69 4 := info_of (by kernel_rfl)
structure QE where
  P : Nat
  G : Nat
  ms : List CM
  t : TN
  v : RQ
  rs : List RL
def QE.sv (e : QE) : SV := ⟨some ⟨e.P, 0, none⟩, e.v⟩
structure QN (lo : Nat) (w : World) (S : List QE) : Prop where
  q : ∀ e ∈ S, QQ w e.P e.G e.ms e.t
  al : ∀ e ∈ S, AL w e.v (csOf e.ms) e.t e.rs
  out : ∀ e ∈ S, ∀ q, QB e.P e.G e.ms q → lo ≤ q
  ap : ∀ (i j : Nat) (x y : QE), i ≠ j → S[i]? = some x → S[j]? = some y → ∀ q, QB x.P x.G x.ms q → ¬ QB y.P y.G y.ms q
theorem QN.nil (lo : Nat) (w : World) : QN lo w [] := ⟨fun _ h => absurd h (by simp), fun _ h => absurd h (by simp), fun _ h => absurd h (by simp), fun _ _ _ _ _ h => absurd h (by simp)⟩
theorem QN.below {lo : Nat} {w w' : World} {S : List QE} (h : QN lo w S) (b : Below w.heap.size w w') : QN lo w' S := ⟨fun e he => (h.q e he).below b, fun e he => (h.al e he).below b, h.out, h.ap⟩
theorem QN.ks {lo : Nat} {w w' : World} {S : List QE} {B : Nat} {cc : Array Value} {ty : TypeId} (h : QN lo w S) (k : Ch (fun q => q = B) w w') (hb : w.heap[B]? = some (.cells cc ty (0, 0))) (h1 : ty ≠ 104) (h2 : ty ≠ 98) (h3 : ty ≠ 119) (h4 : 110 ≠ ty) (h5 : 124 ≠ ty) : QN lo w' S := ⟨fun e he => (h.q e he).ks k hb h1 h2 h3, fun e he => (h.al e he).ks k hb h4 h5, h.out, h.ap⟩
theorem AL.rb {base : Nat} {w w' : World} {v : RQ} {cs : List CL} {t : TN} {rs : List RL} (h : AL w v cs t rs) (k : Ch (RB base w) w w') : AL w' v cs t rs := by
  have key : ∀ {e : TypeId}, e ≠ 36 → e ≠ 77 → ∀ (x : Nat) (cc : Array Value), w.heap[x]? = some (.cells cc e (0, 0)) → w'.heap[x]? = some (.cells cc e (0, 0)) := fun h1 h2 x cc hx => (k.block x (Array.getElem?_eq_some_iff.1 hx).1 (fun hs => by
    obtain ⟨_, c2, ty, h3, h4⟩ := hs
    rw [hx] at h3
    simp only [Option.some.injEq, Obj.cells.injEq] at h3
    rcases h4 with h4 | h4
    · exact h1 (h3.2.1.trans h4)
    · exact h2 (h3.2.1.trans h4))).trans hx
  exact ⟨⟨h.st.lk.keep (key (by decide) (by decide)), h.st.n, fun r hr => ⟨(h.st.it r hr).1.keep (key (by decide) (by decide)), (h.st.it r hr).2⟩, h.st.cap, h.st.len⟩, h.eq, h.rt⟩
theorem QN.rb {lo base : Nat} {w w' : World} {S : List QE} (h : QN lo w S) (k : Ch (RB base w) w w') : QN lo w' S := ⟨fun e he => (h.q e he).ch k (fun q hq hs => by
    obtain ⟨_, c2, ty, h3, h4⟩ := hs
    rcases h4 with rfl | rfl
    · exact (h.q e he).qa.apart h3 (by decide) (by decide) (by decide) hq
    · exact (h.q e he).qa.apart h3 (by decide) (by decide) (by decide) hq), fun e he => (h.al e he).rb k, h.out, h.ap⟩
theorem QN.add {lo : Nat} {w : World} {S : List QE} (h : QN lo w S) (e : QE) (hq : QQ w e.P e.G e.ms e.t) (ha : AL w e.v (csOf e.ms) e.t e.rs) (N : Nat) (hN : ∀ x ∈ S, ∀ q, QB x.P x.G x.ms q → q < N) (he : ∀ q, QB e.P e.G e.ms q → N ≤ q) (hlo : lo ≤ N) : QN lo w (S ++ [e]) := by
  refine ⟨fun x hx => ?_, fun x hx => ?_, fun x hx => ?_, fun i j x y hij hx hy q hqx hqy => ?_⟩
  · rcases List.mem_append.1 hx with h1 | h1
    · exact h.q x h1
    · rw [List.mem_singleton.1 h1]; exact hq
  · rcases List.mem_append.1 hx with h1 | h1
    · exact h.al x h1
    · rw [List.mem_singleton.1 h1]; exact ha
  · rcases List.mem_append.1 hx with h1 | h1
    · exact h.out x h1
    · rw [List.mem_singleton.1 h1]; exact fun q hq' => Nat.le_trans hlo (he q hq')
  · by_cases hi : i < S.length
    · rw [List.getElem?_append_left hi] at hx
      by_cases hj : j < S.length
      · rw [List.getElem?_append_left hj] at hy
        exact h.ap i j x y hij hx hy q hqx hqy
      · rw [List.getElem?_append_right (by omega)] at hy
        have := List.mem_singleton.1 (List.mem_of_getElem? hy)
        subst this
        have h1 := hN x (List.mem_of_getElem? hx) q hqx
        have h2 := he q hqy
        omega
    · rw [List.getElem?_append_right (by omega)] at hx
      have h3 := List.mem_singleton.1 (List.mem_of_getElem? hx)
      subst h3
      by_cases hj : j < S.length
      · rw [List.getElem?_append_left hj] at hy
        have h1 := hN y (List.mem_of_getElem? hy) q hqy
        have h2 := he q hqx
        omega
      · have h4 := (List.getElem?_eq_some_iff.1 hx).1
        rw [List.getElem?_append_right (by omega)] at hy
        have h5 := (List.getElem?_eq_some_iff.1 hy).1
        simp at h4 h5
        omega
/-- one of them, and what the others are -/
def JN (W : World) (S : List QE) (k P G : Nat) (cs : List CL) (t : TN) (w : World) : Prop := ∃ ms, csOf ms = cs ∧ QQ w P G ms t ∧ Below W.heap.size W w ∧ (∀ q, QB P G ms q → W.heap.size ≤ q) ∧ ∀ (j : Nat) (o : QE), j ≠ k → S[j]? = some o → (QQ w o.P o.G o.ms o.t ∧ (∀ q, QB o.P o.G o.ms q → W.heap.size ≤ q) ∧ ∀ q, QB P G ms q → ¬ QB o.P o.G o.ms q)
section
variable {W : World} {S : List QE} {k P G : Nat} {cs : List CL} {t : TN} {w : World}
theorem JN.push (h : JN W S k P G cs t w) (i size number : Int) : Calls Try.prog 16 #[.pointer (some ⟨P, 0, none⟩), .int .i64 i, .int .i64 size, .int .i64 number] w fun e w' => e = .returned (.int .i64 (pushE cs i size)) ∧ JN W S k P G (pushCs cs i size number) t w' ∧ Kp w w' := by
  obtain ⟨ms, rfl, h3, h5, h6, h7⟩ := h
  refine (push_any P G ms t w h3 i size number).mono ?_
  rintro e w' ⟨mz, rfl, q', c', k', s'⟩
  have hs : ∀ q, QB P G mz q → QB P G ms q ∨ w.heap.size ≤ q := s'
  refine ⟨rfl, ⟨mz, c', q', h5.trans (k'.below h6 h5.size), fun q hq => (hs q hq).elim (h6 q) (fun e => Nat.le_trans h5.size e), fun j o hj ho => ?_⟩, h3.qa.kp k'⟩
  obtain ⟨g1, g2, g3⟩ := h7 j o hj ho
  refine ⟨g1.ch k' (fun q hq hs' => g3 q hs' hq), g2, fun q hq hq' => (hs q hq).elim (fun e => g3 q e hq') (fun e => ?_)⟩
  have := g1.qa.lt q hq'
  omega
theorem JN.pop (h : JN W S k P G cs t w)  : Calls Try.prog 17 #[.pointer (some ⟨P, 0, none⟩)] w fun e w' => e = .returned (.tuple #[.int .i64 (popN cs t), .int .i64 (popC cs t), .bool (anyR cs)]) ∧ JN W S k P G (popQ cs t) (popT cs t) w' ∧ Kp w w' := by
  obtain ⟨ms, rfl, h3, h5, h6, h7⟩ := h
  refine (pop_any P G ms t w h3 ).mono ?_
  rintro e w' ⟨mz, rfl, q', c', k', s'⟩
  have hs : ∀ q, QB P G mz q → QB P G ms q ∨ w.heap.size ≤ q := fun q hq => .inl (s' q hq)
  refine ⟨rfl, ⟨mz, c', q', h5.trans (k'.below h6 h5.size), fun q hq => (hs q hq).elim (h6 q) (fun e => Nat.le_trans h5.size e), fun j o hj ho => ?_⟩, h3.qa.kp k'⟩
  obtain ⟨g1, g2, g3⟩ := h7 j o hj ho
  refine ⟨g1.ch k' (fun q hq hs' => g3 q hs' hq), g2, fun q hq hq' => (hs q hq).elim (fun e => g3 q e hq') (fun e => ?_)⟩
  have := g1.qa.lt q hq'
  omega
theorem JN.tick (h : JN W S k P G cs t w)  : Calls Try.prog 26 #[.pointer (some ⟨P, 0, none⟩)] w fun e w' => e = .returned (.tuple #[]) ∧ JN W S k P G (cs.map fillC) t w' ∧ Kp w w' := by
  obtain ⟨ms, rfl, h3, h5, h6, h7⟩ := h
  refine (tick_any P G ms t w h3 ).mono ?_
  rintro e w' ⟨mz, rfl, q', c', k', s'⟩
  have hs : ∀ q, QB P G mz q → QB P G ms q ∨ w.heap.size ≤ q := fun q hq => .inl (s' q hq)
  refine ⟨rfl, ⟨mz, c', q', h5.trans (k'.below h6 h5.size), fun q hq => (hs q hq).elim (h6 q) (fun e => Nat.le_trans h5.size e), fun j o hj ho => ?_⟩, h3.qa.kp k'⟩
  obtain ⟨g1, g2, g3⟩ := h7 j o hj ho
  refine ⟨g1.ch k' (fun q hq hs' => g3 q hs' hq), g2, fun q hq hq' => (hs q hq).elim (fun e => g3 q e hq') (fun e => ?_)⟩
  have := g1.qa.lt q hq'
  omega
theorem JN.below {w' : World} (h : JN W S k P G cs t w) (b : Below w.heap.size w w') : JN W S k P G cs t w' := by
  obtain ⟨ms, h1, h3, h5, h6, h7⟩ := h
  exact ⟨ms, h1, h3.below b, h5.trans (b.mono h5.size), h6, fun j o hj ho => ⟨(h7 j o hj ho).1.below b, (h7 j o hj ho).2⟩⟩
theorem undN (W : World) (S : List QE) (k P G : Nat) : Und P W.heap.size (JN W S k P G) where
  ok h := by obtain ⟨ms, rfl, h3, _⟩ := h; exact h3.ok
  low h := by obtain ⟨ms, _, _, h5, _⟩ := h; exact h5.size
  below h b := h.below b
  ch h k hl hb h1 h2 h3 := by
    obtain ⟨ms, g1, g3, g5, g6, g7⟩ := h
    exact ⟨ms, g1, g3.ks k hb h1 h2 h3, g5.trans (k.below (fun q hq => by subst hq; exact hl) g5.size), g6, fun j o hj ho => ⟨(g7 j o hj ho).1.ks k hb h1 h2 h3, (g7 j o hj ho).2⟩⟩
  push h i s n := h.push i s n
  pop h := h.pop
  tick h := h.tick
  peek h := by
    have h' := h
    obtain ⟨ms, rfl, h3, _⟩ := h
    refine (peek_any _ _ _ _ _ h3).mono ?_
    rintro e w' ⟨rfl, b⟩
    exact ⟨rfl, h'.below b, b⟩
  len h i := by
    have h' := h
    obtain ⟨ms, rfl, h3, _⟩ := h
    refine (len_any _ _ _ _ _ h3 i).mono ?_
    rintro e w' ⟨rfl, b⟩
    subst b
    exact ⟨rfl, h', Below.refl _ _⟩
  bytes h i := by
    have h' := h
    obtain ⟨ms, rfl, h3, _⟩ := h
    refine (bytes_any _ _ _ _ _ h3 i).mono ?_
    rintro e w' ⟨rfl, b⟩
    subst b
    exact ⟨rfl, h', Below.refl _ _⟩
theorem QN.toJ {e : QE} (h : QN W.heap.size w S) (b : Below W.heap.size W w) (hk : S[k]? = some e) : JN W S k e.P e.G (csOf e.ms) e.t w :=
  ⟨e.ms, rfl, h.q e (List.mem_of_getElem? hk), b, h.out e (List.mem_of_getElem? hk), fun j o hj ho => ⟨h.q o (List.mem_of_getElem? ho), h.out o (List.mem_of_getElem? ho), h.ap k j e o (fun e => hj e.symm) hk ho⟩⟩
theorem QN.ofJ {w' : World} {v' : RQ} {rs' : List RL} (h : QN W.heap.size w S) (k' : Kp w w') (hk : k < S.length) (hJ : JN W S k P G cs t w') (ha : AL w' v' cs t rs') : ∃ ms', QN W.heap.size w' (S.set k ⟨P, G, ms', t, v', rs'⟩) ∧ Below W.heap.size W w' := by
  obtain ⟨ms, rfl, h3, h5, h6, h7⟩ := hJ
  have mem : ∀ x ∈ S.set k ⟨P, G, ms, t, v', rs'⟩, x = ⟨P, G, ms, t, v', rs'⟩ ∨ ∃ j, j ≠ k ∧ S[j]? = some x := fun x hx => by
    obtain ⟨j, hj⟩ := List.getElem?_of_mem hx
    by_cases e : j = k
    · subst e
      rw [List.getElem?_set_self hk] at hj
      exact .inl (Option.some.inj hj).symm
    · rw [List.getElem?_set_ne (fun x => e x.symm)] at hj
      exact .inr ⟨j, e, hj⟩
  refine ⟨ms, ⟨fun x hx => ?_, fun x hx => ?_, fun x hx => ?_, fun i j x y hij hx hy => ?_⟩, h5⟩
  · rcases mem x hx with rfl | ⟨j, hj, h8⟩
    · exact h3
    · exact (h7 j x hj h8).1
  · rcases mem x hx with rfl | ⟨j, hj, h8⟩
    · exact ha
    · exact (h.al x (List.mem_of_getElem? h8)).kp k'
  · rcases mem x hx with rfl | ⟨j, hj, h8⟩
    · exact h6
    · exact (h7 j x hj h8).2.1
  · by_cases ei : i = k
    · subst ei
      rw [List.getElem?_set_self hk] at hx
      rw [List.getElem?_set_ne hij] at hy
      cases hx
      exact (h7 j y (fun e => hij e.symm) hy).2.2
    · rw [List.getElem?_set_ne (fun e => ei e.symm)] at hx
      by_cases ej : j = k
      · subst ej
        rw [List.getElem?_set_self hk] at hy
        cases hy
        exact fun q hq hq' => (h7 i x ei hx).2.2 q hq' hq
      · rw [List.getElem?_set_ne (fun e => ej e.symm)] at hy
        exact h.ap i j x y hij hx hy
end
end Go.Proofs.Ytcdbhkihbfjedaa
