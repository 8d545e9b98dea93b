/-
  Layer 15 (NeighOwn): two caches and the book beside one another.
-/
import Derived.Test.YtnpipngiehohgaaNoK
import Derived.Test.YtnpipngiehohgaaNoW
import Derived.Test.YtnpipngiehohgaaNoT
import Derived.Test.YtnpipngiehohgaaNgH2
namespace Go.Proofs.Ytnpipngiehohgaa
open Go.RowKit Go.Maps
namespace No

/-- a line that Learn hands out is the cache's no more -/
theorem learn_out {w w' : World} {t M : Nat} {c : CF} {E E' : List EV} {k : KV} {m : Nat → Nat} {how : Int} {v : Value} {l : List Int} {er : Int} (h : CA w t M c E) (h' : CA w' t M c E') (hR : LearnR c E k m how E' v l er) (hl : LnAt w' v l) : ∀ g, v.ownBlock = some g → CB t M E g ∧ ¬ CB t M E' g := by
  intro g hg
  have key : ∀ (e : EV) (n : EN), fE E k = some e → v = e.lv → E' = updE E k ⟨n, e.P, .slice none 0 0⟩ → CB t M E g ∧ ¬ CB t M E' g := fun e n hf hv hE => by
    obtain ⟨he, hk⟩ := fE_some hf
    refine ⟨.inr (.inr ⟨e, he, .inr (by rw [← hv]; exact hg)⟩), ?_⟩
    obtain ⟨cc, hcc⟩ := hl.kind g hg
    refine cb_line h' hcc (fun a ha e2 => ?_)
    rw [hE] at ha
    unfold updE at ha
    obtain ⟨b, hb, rfl⟩ := List.mem_map.1 ha
    by_cases hq : eqP b.n.k k = true
    · rw [if_pos hq] at e2
      simp [Value.ownBlock] at e2
    · rw [if_neg hq] at e2
      have hq2 : eqP b.n.k k = false := by simpa using hq
      exact pw_ne lsym h.ld hb he (fE_ne hf hq2) g e2 (by rw [← hv]; exact hg)
  have nil : v = .slice none 0 0 → CB t M E g ∧ ¬ CB t M E' g := fun e => by rw [e] at hg; simp [Value.ownBlock] at hg
  rcases hR with ⟨_, _, e, _⟩ | ⟨_, ⟨_, _, _, e, _⟩ | ⟨_, _, _, e, _⟩ | ⟨e, hf, ⟨_, h2, h3, _⟩ | ⟨_, _, h2, h3, _⟩ | ⟨_, _, _, e, _⟩⟩⟩
  · exact nil e
  · exact nil e
  · exact nil e
  · exact key e _ hf h3 h2
  · exact key e _ hf h3 h2
  · exact nil e
theorem learn_len {c : CF} {E E' : List EV} {k : KV} {m : Nat → Nat} {how : Int} {v : Value} {l : List Int} {er : Int} (hE : ∀ e ∈ E, e.n.ln.length ≤ 64) (hR : LearnR c E k m how E' v l er) : l.length ≤ 64 := by
  rcases hR with ⟨_, _, _, rfl, _⟩ | ⟨_, ⟨_, _, _, _, rfl⟩ | ⟨_, _, _, _, rfl, _⟩ | ⟨e, hf, ⟨_, _, _, rfl, _⟩ | ⟨_, _, _, _, rfl, _⟩ | ⟨_, _, _, _, rfl, _⟩⟩⟩ <;> first | exact Nat.zero_le _ | exact hE e (fE_some hf).1
theorem due_len {c : CF} {E : List EV} {Kd : List KV} (h : Kd.Perm (dueL c E)) : Kd.length ≤ E.length := by
  rw [h.length_eq]
  unfold dueL
  rw [List.length_map]
  exact List.length_filter_le _ _
theorem asks_len {c : CF} {E F : List EV} {Kd : List KV} (h : Kd.Perm (dueL c E)) : (asksL c F Kd).length ≤ E.length := by
  unfold asksL
  exact Nat.le_trans (List.length_filterMap_le _ _) (due_len h)
theorem flat_len {α β : Type} (f : α → List β) (n : Nat) : ∀ l : List α, (∀ a ∈ l, (f a).length ≤ n) → (l.flatMap f).length ≤ l.length * n
  | [], _ => by simp
  | a :: l, h => by
    rw [List.flatMap_cons, List.length_append, List.length_cons, Nat.add_mul, Nat.one_mul]
    have h1 := h a (by simp)
    have h2 := flat_len f n l (fun b hb => h b (List.mem_cons_of_mem _ hb))
    omega
theorem lost_len {c : CF} {E : List EV} {Kd : List KV} (h : Kd.Perm (dueL c E)) (hE : ∀ e ∈ E, e.n.ln.length ≤ 64) (hl : E.length ≤ 1024) : (lostL c (E.map (ag1 c)) Kd).length ≤ 65536 := by
  have h1 := due_len h
  refine Nat.le_trans (flat_len _ 64 Kd (fun k _ => ?_)) (by omega)
  unfold lostOf
  cases hf : fE (E.map (ag1 c)) k with
  | none => simp
  | some e =>
    obtain ⟨he, _⟩ := fE_some hf
    obtain ⟨a, ha, rfl⟩ := List.mem_map.1 he
    show (if _ then ([] : List Int) else (ag1 c a).n.ln).length ≤ 64
    split
    · simp
    · show (oldN c a.n).ln.length ≤ 64
      rw [oldN_ln]
      exact hE a ha
/-- the blocks of the two caches and of the book -/
def PO (t M p Q : Nat) (E F : List EV) (BK : Nat) (b : BV) (g : Nat) : Prop := CB t M E g ∨ CB p Q F g ∨ BB BK b g
structure Duo (W : World) (t M p Q : Nat) (c : CF) (E F : List EV) (BK : Nat) (b : BV) (w : World) : Prop where
  k0 : LSt W t M c E w
  k1 : LSt W p Q c F w
  bk : BkM w BK b
  d01 : ∀ q, CB t M E q → ¬ CB p Q F q
  d0 : ∀ q, CB t M E q → ¬ BB BK b q
  d1 : ∀ q, CB p Q F q → ¬ BB BK b q
  far : ∀ q, BB BK b q → W.heap.size ≤ q
/-- a list that is free: none of theirs -/
def Fr (W : World) (P : Nat → Prop) (w : World) (v : Value) : Prop := ∀ g, v.ownBlock = some g → W.heap.size ≤ g ∧ g < w.heap.size ∧ ¬ P g
theorem Fr.nil (W : World) (P : Nat → Prop) (w : World) (n k : Nat) : Fr W P w (.slice none n k) := fun g hg => by simp [Value.ownBlock] at hg
theorem Fr.go {W : World} {P P' : Nat → Prop} {w w' : World} {v : Value} (h : Fr W P w v) (hs : w.heap.size ≤ w'.heap.size) (hP : ∀ g, P' g → P g ∨ w.heap.size ≤ g) : Fr W P' w' v := fun g hg => by
  obtain ⟨h1, h2, h3⟩ := h g hg
  exact ⟨h1, by omega, fun k => (hP g k).elim h3 (fun k => by omega)⟩
section
variable {W : World} {t M p Q : Nat} {c : CF} {E F : List EV} {BK : Nat} {b : BV} {w w' : World}
theorem Duo.swap (h : Duo W t M p Q c E F BK b w) : Duo W p Q t M c F E BK b w := ⟨h.k1, h.k0, h.bk, fun q h1 h2 => h.d01 q h2 h1, h.d1, h.d0, h.far⟩
theorem Duo.lt (h : Duo W t M p Q c E F BK b w) : ∀ g, PO t M p Q E F BK b g → g < w.heap.size := fun g hg => by
  rcases hg with hg | hg | hg
  · exact h.k0.ca.tlt g hg
  · exact h.k1.ca.tlt g hg
  · exact h.bk.lt g hg
theorem Duo.ch (h : Duo W t M p Q c E F BK b w) {S : Nat → Prop} (k : Ch S w w') (hW : ∀ q, S q → W.heap.size ≤ q) (hS : ∀ q, PO t M p Q E F BK b q → ¬ S q) : Duo W t M p Q c E F BK b w' :=
  ⟨h.k0.ch k (fun q hq => hS q (.inl hq)) hW, h.k1.ch k (fun q hq => hS q (.inr (.inl hq))) hW, h.bk.ch k (fun q hq => hS q (.inr (.inr hq))), h.d01, h.d0, h.d1, h.far⟩
theorem Duo.below (h : Duo W t M p Q c E F BK b w) (k : Below w.heap.size w w') : Duo W t M p Q c E F BK b w' := h.ch (Ch.ofBelow (S := fun _ => False) k) (fun _ q => q.elim) (fun _ _ => id)
theorem Duo.then0 (h : Duo W t M p Q c E F BK b w) {E' : List EV} (h0 : LSt W t M c E' w') (k : Ch (CB t M E) w w') (hq : ∀ q, CB t M E' q → CB t M E q ∨ w.heap.size ≤ q) : Duo W t M p Q c E' F BK b w' := by
  refine ⟨h0, h.k1.ch k (fun q h1 h2 => h.d01 q h2 h1) h.k0.out, h.bk.ch k (fun q h1 h2 => h.d0 q h2 h1), fun q h1 h2 => ?_, fun q h1 h2 => ?_, h.d1, h.far⟩
  · rcases hq q h1 with k | k
    · exact h.d01 q k h2
    · have := h.k1.ca.tlt q h2; omega
  · rcases hq q h1 with k | k
    · exact h.d0 q k h2
    · have := h.bk.lt q h2; omega
theorem po0 {E' : List EV} (hq : ∀ q, CB t M E' q → CB t M E q ∨ w.heap.size ≤ q) : ∀ g, PO t M p Q E' F BK b g → PO t M p Q E F BK b g ∨ w.heap.size ≤ g := fun g hg => by
  rcases hg with hg | hg
  · exact (hq g hg).imp .inl id
  · exact .inl (.inr hg)
theorem po1 {F' : List EV} (hq : ∀ q, CB p Q F' q → CB p Q F q ∨ w.heap.size ≤ q) : ∀ g, PO t M p Q E F' BK b g → PO t M p Q E F BK b g ∨ w.heap.size ≤ g := fun g hg => by
  rcases hg with hg | hg | hg
  · exact .inl (.inl hg)
  · exact (hq g hg).imp (fun k => .inr (.inl k)) id
  · exact .inl (.inr (.inr hg))
theorem po_swap {g : Nat} : PO t M p Q E F BK b g ↔ PO p Q t M F E BK b g := ⟨fun h => h.elim (fun k => .inr (.inl k)) (fun k => k.elim .inl (fun k => .inr (.inr k))), fun h => h.elim (fun k => .inr (.inl k)) (fun k => k.elim .inl (fun k => .inr (.inr k)))⟩
theorem Fr.swap {v : Value} (h : Fr W (PO t M p Q E F BK b) w v) : Fr W (PO p Q t M F E BK b) w v := fun g hg => ⟨(h g hg).1, (h g hg).2.1, fun k => (h g hg).2.2 (po_swap.2 k)⟩
theorem Duo.want (h : Duo W t M p Q c E F BK b w) (k : KV) (hk : k.Wf) (item : Int) :
    Calls Try.prog 15 #[.pointer (some ⟨t, 0, none⟩), .int .i64 k.pt, .agg (ipCells k.V k.x), .int .i64 item] w fun r w' => ∃ m oc er E', r = .returned (.tuple #[.agg (macC m), .int .i64 oc, .int .i64 er]) ∧ Hid (WantR c E k item E' m oc er ∧ Duo W t M p Q c E' F BK b w' ∧ Ch (CB t M E) w w') := by
  refine (h.k0.want k hk item).mono ?_
  rintro r w' ⟨m, oc, er, E', rfl, hR, hL, kk, hq, _⟩
  exact ⟨m, oc, er, E', rfl, hR, h.then0 hL kk hq, kk⟩
theorem Duo.learn (h : Duo W t M p Q c E F BK b w) (k : KV) (hk : k.Wf) (mc : Nat → Nat) (hm : ∀ i, i < 6 → mc i < 256) (how : Int) :
    Calls Try.prog 16 #[.pointer (some ⟨t, 0, none⟩), .int .i64 k.pt, .agg (ipCells k.V k.x), .agg (macC mc), .int .i64 how] w fun r w' => ∃ va n vc er, r = .returned (.tuple #[.slice va n vc, .int .i64 er]) ∧ Hid (∃ l E', l.length = n ∧ n ≤ 64 ∧ LearnR c E k mc how E' (.slice va n vc) l er ∧ Duo W t M p Q c E' F BK b w' ∧ LnAt w' (.slice va n vc) l ∧ Fr W (PO t M p Q E' F BK b) w' (.slice va n vc) ∧ Ch (CB t M E) w w' ∧ (∀ g, PO t M p Q E' F BK b g → PO t M p Q E F BK b g ∨ w.heap.size ≤ g)) := by
  refine (h.k0.learn k hk mc hm how).mono ?_
  rintro r w' ⟨v, l, er, E', rfl, hR, hL, kk, hl, hq, _⟩
  obtain ⟨va, vc, rfl⟩ := hl.form
  have ho := learn_out h.k0.ca hL.ca hR hl
  refine ⟨va, l.length, vc, er, rfl, l, E', rfl, learn_len (h.k0.ok.lns h.k0.cf) hR, hR, h.then0 hL kk hq, hl, fun g hg => ?_, kk, po0 hq⟩
  obtain ⟨o1, o2⟩ := ho g hg
  refine ⟨h.k0.out g o1, (hl.lt g hg).2, ?_⟩
  rintro (x | x | x)
  · exact o2 x
  · exact h.d01 g o1 x
  · exact h.d0 g o1 x
theorem Duo.tick (h : Duo W t M p Q c E F BK b w) :
    Calls Try.prog 17 #[.pointer (some ⟨t, 0, none⟩)] w fun r w' => ∃ aa na ac va n vc, r = .returned (.tuple #[.slice aa na ac, .slice va n vc]) ∧ Hid (∃ Kd A l, A.length = na ∧ l.length = n ∧ na ≤ 1024 ∧ n ≤ 65536 ∧ A = asksL c (E.map (ag1 c)) Kd ∧ l = lostL c (E.map (ag1 c)) Kd ∧ Kd.Perm (dueL c E) ∧ Kd.Pairwise (fun a b => 0 ≤ ordV b a) ∧ Duo W t M p Q c (E.filterMap (tickE c)) F BK b w' ∧ AL w' 0 (.slice aa na ac) A ∧ LnAt w' (.slice va n vc) l ∧ Fr W (PO t M p Q (E.filterMap (tickE c)) F BK b) w' (.slice aa na ac) ∧ Fr W (PO t M p Q (E.filterMap (tickE c)) F BK b) w' (.slice va n vc) ∧ Ch (CB t M E) w w' ∧ (∀ g, PO t M p Q (E.filterMap (tickE c)) F BK b g → PO t M p Q E F BK b g ∨ w.heap.size ≤ g)) := by
  refine h.k0.tick.mono ?_
  rintro r w' ⟨av, lv, Kd, rfl, hp, hs, ha, hl, hL, kk⟩
  obtain ⟨aa, ac, rfl⟩ := ha.form
  obtain ⟨va, vc, rfl⟩ := hl.form
  have hb := h.k0.bel.size
  have hn : ∀ g, w.heap.size ≤ g → ¬ PO t M p Q (E.filterMap (tickE c)) F BK b g := fun g hg k => by
    have h5 : g < w.heap.size := by
      rcases k with k | k | k
      · exact h.k0.ca.tlt g (tick_cb g k)
      · exact h.k1.ca.tlt g k
      · exact h.bk.lt g k
    omega
  refine ⟨aa, _, ac, va, _, vc, rfl, Kd, _, _, rfl, rfl, ?_, lost_len hp (h.k0.ok.lns h.k0.cf) (h.k0.ok.len h.k0.cf), rfl, rfl, hp, hs, h.then0 hL kk (fun q hq => .inl (tick_cb q hq)), ha.mono (Nat.zero_le _), owns_mono hl (Nat.zero_le _), fun g hg => ?_, fun g hg => ?_, kk, po0 (fun q hq => .inl (tick_cb q hq))⟩
  · exact Nat.le_trans (asks_len hp) (h.k0.ok.len h.k0.cf)
  · obtain ⟨h1, h2, _⟩ := ha.cells g hg
    exact ⟨by omega, h2, hn g h1⟩
  · obtain ⟨h1, h2, _⟩ := hl.cells g hg
    exact ⟨by omega, h2, hn g h1⟩
theorem Duo.all (h : Duo W t M p Q c E F BK b w) : Calls Try.prog 18 #[.pointer (some ⟨t, 0, none⟩)] w fun r w' => ∃ va n vc, r = .returned (.slice va n vc) ∧ Hid (∃ S, Srt E S ∧ S.length = n ∧ n ≤ 1024 ∧ NL w' 0 (.slice va n vc) (S.map (fun e => e.n.nb)) ∧ Fr W (PO t M p Q E F BK b) w' (.slice va n vc) ∧ Duo W t M p Q c E F BK b w' ∧ Below w.heap.size w w') := by
  refine h.k0.all.mono ?_
  rintro r w' ⟨v, S, rfl, hS, hN, hL, bb⟩
  obtain ⟨va, vc, rfl⟩ := hN.form
  have hb := h.k0.bel.size
  have hl : S.length ≤ 1024 := by rw [hS.1.length_eq]; exact h.k0.ok.len h.k0.cf
  refine ⟨va, _, vc, rfl, S, hS, by rw [List.length_map], by rw [List.length_map]; exact hl, hN.mono (Nat.zero_le _), fun g hg => ?_, h.below bb, bb⟩
  obtain ⟨h1, h2, _⟩ := hN.cells g hg
  exact ⟨by omega, h2, fun k => by have := h.lt g k; omega⟩
/-- keep: the book takes three free lists -/
theorem Duo.keep (h : Duo W t M p Q c E F BK b w) (hl : b.N.length = b.I.length ∧ b.A.length = b.I.length ∧ b.I.length % 3 = 0) (hL : b.I.length ≤ 100000) (ia na aa : Option Addr) (nI ic nN nc nA ac : Nat) (xI : List Int) (xN : List NB) (xA : List AK) (hI : LnAt w (.slice ia nI ic) xI) (eI : xI.length = nI) (hN : NL w 0 (.slice na nN nc) xN) (eN : xN.length = nN) (hA : AL w 0 (.slice aa nA ac) xA) (eA : xA.length = nA) (hb : nI ≤ 65536 ∧ nN ≤ 1024 ∧ nA ≤ 1024)
    (fI : Fr W (PO t M p Q E F BK b) w (.slice ia nI ic)) (fN : Fr W (PO t M p Q E F BK b) w (.slice na nN nc)) (fA : Fr W (PO t M p Q E F BK b) w (.slice aa nA ac)) :
    Calls Try.prog 30 #[.pointer (some ⟨BK, 0, none⟩), .slice ia nI ic, .slice na nN nc, .slice aa nA ac] w fun r w' => r = .returned (.tuple #[]) ∧ Hid (∃ b', Duo W t M p Q c E F BK b' w' ∧ (b'.N.length = b'.I.length ∧ b'.A.length = b'.I.length ∧ b'.I.length = b.I.length + 3)) := by
  have hh : ∀ q, ((Value.slice ia nI ic).ownBlock = some q ∨ (Value.slice na nN nc).ownBlock = some q ∨ (Value.slice aa nA ac).ownBlock = some q) → W.heap.size ≤ q ∧ ¬ PO t M p Q E F BK b q := fun q hq => by
    rcases hq with hq | hq | hq
    · exact ⟨(fI q hq).1, (fI q hq).2.2⟩
    · exact ⟨(fN q hq).1, (fN q hq).2.2⟩
    · exact ⟨(fA q hq).1, (fA q hq).2.2⟩
  unfold LnAt at hI
  unfold NL at hN
  unfold AL at hA
  rw [eI] at hI
  rw [eN] at hN
  rw [eA] at hA
  refine (keep_any w BK b h.bk hl hL ia na aa nI ic nN nc nA ac _ _ _ hI hN hA ⟨by omega, by omega, by omega⟩ (fun q hq k => (hh q hq).2 (.inr (.inr k)))).mono ?_
  rintro r w' ⟨rfl, b', h1, h2, h3, h4⟩
  have size := h.k0.bel.size
  have hS : ∀ q, (BB BK b q ∨ ((Value.slice ia nI ic).ownBlock = some q ∨ (Value.slice na nN nc).ownBlock = some q ∨ (Value.slice aa nA ac).ownBlock = some q)) → W.heap.size ≤ q := fun q hq => hq.elim (h.far q) (fun k => (hh q k).1)
  have g0 : ∀ q, CB t M E q → ¬ BB BK b' q := fun q k1 k2 => by
    rcases h3 q k2 with k | k | k
    · exact h.d0 q k1 k
    · exact (hh q k).2 (.inl k1)
    · have := h.k0.ca.tlt q k1; omega
  have g1 : ∀ q, CB p Q F q → ¬ BB BK b' q := fun q k1 k2 => by
    rcases h3 q k2 with k | k | k
    · exact h.d1 q k1 k
    · exact (hh q k).2 (.inr (.inl k1))
    · have := h.k1.ca.tlt q k1; omega
  refine ⟨rfl, b', ⟨h.k0.ch h4 (fun q k1 k2 => ?_) hS, h.k1.ch h4 (fun q k1 k2 => ?_) hS, h1, h.d01, g0, g1, fun q hq => ?_⟩, h2⟩
  · rcases k2 with k | k
    · exact h.d0 q k1 k
    · exact (hh q k).2 (.inl k1)
  · rcases k2 with k | k
    · exact h.d1 q k1 k
    · exact (hh q k).2 (.inr (.inl k1))
  · rcases h3 q hq with k | k | k
    · exact h.far q k
    · exact (hh q k).1
    · omega
end
def bz : BV := ⟨.slice none 0 0, .slice none 0 0, .slice none 0 0, [], [], []⟩
theorem bk_new (w w' : World) (hw : w.alloc (.cells #[.slice none 0 0, .slice none 0 0, .slice none 0 0] 69) = w') : BkM w' w.heap.size bz := by
  have hB : w'.heap[w.heap.size]? = some (.cells #[.slice none 0 0, .slice none 0 0, .slice none 0 0] 69 (0, 0)) := by rw [← hw]; exact heap_alloc_new _ _
  refine ⟨by simp [World.cell?, hB, bz], by simp [World.cell?, hB, bz], by simp [World.cell?, hB, bz], fun j => by simp [World.frozen?, hB], World.ownsRow_nil _ _ _ _, World.ownsRow_nil _ _ _ _, World.ownsRow_nil _ _ _ _, fun i r hr => by simp [bz] at hr, fun i r hr => by simp [bz] at hr, fun i r hr => by simp [bz] at hr, fun q hq => ?_⟩
  rcases hq with hq | hq | hq | ⟨r, hr, _⟩ | ⟨r, hr, _⟩ | ⟨r, hr, _⟩ <;> first | (simp [bz, Value.ownBlock] at hq; done) | cases hr
theorem bz_bb {K q : Nat} (h : BB K bz q) : q = K := by
  rcases h with h | h | h | h | ⟨r, hr, _⟩ | ⟨r, hr, _⟩ | ⟨r, hr, _⟩ <;> first | exact h | (simp [bz, Value.ownBlock] at h; done) | cases hr
theorem wpList_neq_mac0 {ops : Array Oper} {rest : List Oper} {o : Oper} {a : Act} {w : World} {Q : Exit → Act → World → Prop} (X Y : Operand) (ho : o.op = .binOp .neq 33 X Y 33) (x : Nat → Nat) (hx : a.eval X = .agg (macC x)) (hy : a.eval Y = .agg (macC x))
    (hw : Region.wanted o (yielded ops a.tmps) = true) (h : wpList Try.prog ops Q rest (a.put o.dst (.bool false)) w) : wpList Try.prog ops Q (o :: rest) a w := by
  refine wpList_step fun K hK => ?_
  rw [if_pos hw]
  have hrun : (execOp a.eval o).run Try.prog w = .ok (.value (.bool false)) w := by
    obtain ⟨dst, op, type, pos, after, guard⟩ := o
    simp only at ho
    subst ho
    simp only [execOp, Sem.run_bind, Sem.run_pure, hx, hy, run_eqGuard_agg w .neq 33 _ _ _ _ Try.macGuard, Result.andThen_ok, run_neq_struct, eq6top, same6_self, Bool.not_true]
  unfold Oper.wp
  rw [hrun]
  exact hK _ _ h
end No
end Go.Proofs.Ytnpipngiehohgaa
