/-
  WFam WBook WBy0 WBg0, one behind the other.
-/
import Derived.Test.YtcoaghcmbhogjaaHYld
import Derived.Deep.DeepAppendRoom
import Derived.Maps.AppendAt
import Derived.Test.YtcoaghcmbhogjaaHOps
namespace Go.Proofs.Ytcoaghcmbhogjaa
namespace MixH
open Go.Proofs.Ytcoaghcmbhogjaa.Mix
theorem many {P : Program} {l : List Oper} {Q : Exit → Act → World → Prop} {S : World → Prop} {F : Nat} {listed : Array Bool} {a : Act} {w : World} (is : List Nat) (fuel : Nat) (hr : Region.ready .any l.toArray listed = is) (hne : is ≠ []) (hF : F = fuel + 1)
    (h : ∀ i, i ∈ is → ∃ o, l[i]? = some o ∧ ∀ K : Act → World → Prop, (∀ a' w', S w' → wpAnyH P .any l.toArray (only Q) S fuel (listed.setIfInBounds i true) a' w' → K a' w') → wpList P l.toArray (only fun _ => K) [o] a w) : wpAnyH P .any l.toArray (only Q) S F listed a w := by
  subst hF
  refine wpAnyH_all hr hne fun m hm => ?_
  obtain ⟨o, hi, h1⟩ := h m hm
  have h0 := h1 _ (fun _ _ hs h => (⟨hs, h⟩ : _ ∧ _))
  have hi' : l.toArray[m]? = some o := by simpa using hi
  unfold wpOp
  simp only [hi']
  unfold wpList at h0
  split
  · rename_i hw
    rw [if_pos hw] at h0
    rcases h0 with h0 | ⟨_, h0⟩
    · exact .inl (wp_only (fun a w h => h.2) h0)
    · exact absurd h0 (no_out _)
  · rename_i hw
    rw [if_neg hw] at h0
    exact h0.2
end MixH
open Go.RowKit Go.Maps
namespace H11
def rep (n : Nat) (mk : List Value) : List Value := (List.replicate n mk).flatten
theorem rep_len (n : Nat) (mk : List Value) : (rep n mk).length = n * mk.length := by simp [rep]
theorem rep_zero (mk : List Value) : rep 0 mk = [] := rfl
theorem rep_add (n k : Nat) (mk : List Value) : rep (n + k) mk = rep n mk ++ rep k mk := by
  unfold rep
  rw [← List.replicate_append_replicate, List.flatten_append]
theorem rep_take (n N : Nat) (mk : List Value) (h : n ≤ N) : (rep N mk).take (n * mk.length) = rep n mk := by
  obtain ⟨k, rfl⟩ : ∃ k, N = n + k := ⟨N - n, by omega⟩
  rw [rep_add, List.take_append_of_le_length (by rw [rep_len]; exact Nat.le_refl _), List.take_of_length_le (by rw [rep_len]; exact Nat.le_refl _)]
theorem rep_get (n : Nat) (x : Value) (j : Nat) (h : j < n) : (rep n [x])[j]? = some x := by
  have e : rep n [x] = List.replicate n x := by
    unfold rep
    induction n with
    | zero => rfl
    | succ n ih => rw [List.replicate_succ, List.flatten_cons, List.replicate_succ]; by_cases hj : j < n <;> simp_all [List.flatten_replicate_singleton]
  rw [e]
  simp [h]

theorem append_splitW {P : Program} {w : World} {ops : Array Oper} {rest : List Oper} {o : Oper} {a : Act} {Q : Exit → Act → World → Prop} (sz : Nat) (hsz : 0 < sz) (hgd : o.guard = none) (s x : Operand) (t : TypeId)
    (ho : o.op = .call { callee := .builtin .append, args := #[s, x], argTypes := #[t, t] })
    (base : Nat) (e : TypeId) (i : TypeInfo) (z : Value) (bytes : Nat) (ht : P.underlying t = some (.slice e)) (hi : P.info? e = some i) (hz : i.zero = some z)
    (hsize : i.size = sz) (hby : i.bytes = bytes) (hzs : z.cells.size = sz)
    (v : Value) (n : Nat) (xs : List Value) (hs : a.eval s = v) (hown : w.ownsRow base e sz v n xs)
    (ad : Addr) (m c : Nat) (news : List Value) (hx : a.eval x = .slice (some ad) m c) (hl : news.length = m * sz) (hnews : ∀ j u, news[j]? = some u → w.cell? (ad.add j) = some u) (h1 : ∀ u ∈ news, u.oneCell' = true)
    (h63 : n + m ≤ maxLen) (hbytes : (n + m) * bytes ≤ 140737488355328) (hbase : base ≤ w.heap.size)
    (h : ∀ v' w', w'.ownsRow base e sz v' (n + m) (xs ++ news) → ((w.grownBy w' none ∧ ∀ q, v'.ownBlock = some q → w.heap.size ≤ q) ∨ (∃ g cap, v = .slice (some ⟨g, 0, none⟩) n cap ∧ v' = .slice (some ⟨g, 0, none⟩) (n + m) cap ∧ w.grownBy w' (some g))) → wpList P ops Q rest (a.put o.dst v') w') : wpList P ops Q (o :: rest) a w := by
  rcases hown.2 with ⟨rfl, rfl⟩ | ⟨g, cap, cur, rfl, hbg, hg, hnc, hcm, hcs, htake⟩
  · have hx0 : xs = [] := List.eq_nil_of_length_eq_zero (by have := hown.1; simpa using this)
    subst hx0
    refine wpList_append_own_at w hgd s x t ho w.heap.size e i z sz bytes ht hi hz hsize hby hzs hsz (.slice none 0 0) 0 [] hs (World.ownsRow_nil _ _ _ _) ad m c news hx hl hnews h1 h63 hbytes (Nat.le_refl _) ?_
    intro v' w' r1 r2 _ _
    exact h v' w' (owns_mono r1 hbase) (.inl ⟨r2, fun q hq => (r1.lt q hq).1⟩)
  · by_cases hroom : n + m ≤ cap
    · refine wpList_append_own_spare w hgd s x t ho base e i sz ht hi hsize g n cap xs hs hown ad m c news hx hl hnews h1 hroom ?_
      intro w' r1 r2
      exact h _ w' r1 (.inr ⟨g, cap, rfl, rfl, r2⟩)
    · refine wpList_plain hgd fun K hK => ?_
      obtain ⟨v', w', hrun, r1, r2⟩ := run_append_arg_grows (P := P) w t o.type e i z sz bytes ht hi hz hsize hby hzs hsz ⟨g, 0, none⟩ n cap xs hown.1 (hown.cells rfl) ad m c news hl hnews (by omega) h63 hbytes
      unfold Oper.wp
      simp [execOp, ho, resolve, invoke, builtin, hs, hx, hrun, Result.andThen]
      exact hK _ _ (h v' w' (owns_mono r1 hbase) (.inl ⟨r2, fun q hq => (r1.lt q hq).1⟩))

/-- a row and what was appended to it: all bear the mark -/
structure Fy (w : World) (base : Nat) (e : TypeId) (mk : List Value) (lv : Value) (n T : Nat) (F : List (Value × Nat)) : Prop where
  own : w.ownsRow base e mk.length lv n (rep n mk)
  mem : ∀ r, r ∈ F → w.ownsRow base e mk.length r.1 r.2 (rep r.2 mk) ∧ r.2 ≤ n + T
theorem Fy.ch {S : Nat → Prop} {w w' : World} {base : Nat} {e : TypeId} {mk : List Value} {lv : Value} {n T : Nat} {F : List (Value × Nat)} (h : Fy w base e mk lv n T F) (k : Ch S w w') (h1 : ∀ q, lv.ownBlock = some q → ¬ S q) (h2 : ∀ r, r ∈ F → ∀ q, r.1.ownBlock = some q → ¬ S q) : Fy w' base e mk lv n T F :=
  ⟨k.owns h.own h1, fun r hr => ⟨k.owns (h.mem r hr).1 (h2 r hr), (h.mem r hr).2⟩⟩
theorem Fy.below {w w' : World} {base : Nat} {e : TypeId} {mk : List Value} {lv : Value} {n T : Nat} {F : List (Value × Nat)} (h : Fy w base e mk lv n T F) (k : Below w.heap.size w w') : Fy w' base e mk lv n T F := h.ch (Ch.ofBelow (S := fun _ => False) k) (fun _ _ => id) (fun _ _ _ _ => id)
theorem owns_prefix {w w' : World} {base g cap N : Nat} {e : TypeId} {mk : List Value} (hmk : 0 < mk.length) (h' : w'.ownsRow base e mk.length (.slice (some ⟨g, 0, none⟩) N cap) N (rep N mk)) {r : Value} {m : Nat} (hr : w.ownsRow base e mk.length r m (rep m mk)) (hrg : r.ownBlock = some g) {capl n : Nat} {lx : List Value} (hl : w.ownsRow base e mk.length (.slice (some ⟨g, 0, none⟩) n capl) n lx) (hcap : capl = cap) (hm : m ≤ N) : w'.ownsRow base e mk.length r m (rep m mk) := by
  rcases hr.2 with ⟨rfl, _⟩ | ⟨g2, c2, cur2, rfl, b2, hh2, n2, m2, s2, t2⟩
  · simp [Value.ownBlock] at hrg
  · simp only [Value.ownBlock, Option.some.injEq] at hrg
    subst hrg
    rcases hl.2 with ⟨q, _⟩ | ⟨g3, c3, cur3, e3, b3, hh3, n3, m3, s3, t3⟩
    · simp at q
    · simp only [Value.slice.injEq, Option.some.injEq, Addr.mk.injEq, and_true, true_and] at e3
      obtain ⟨rfl, rfl⟩ := e3
      rw [hh2] at hh3
      simp only [Option.some.injEq, Obj.cells.injEq, and_true] at hh3
      subst hh3
      have hc2 : c2 = capl := by
        have : c2 * mk.length = capl * mk.length := by rw [← s2, ← s3]
        exact Nat.eq_of_mul_eq_mul_right hmk this
      rcases h'.2 with ⟨q, _⟩ | ⟨g4, c4, cur4, e4, b4, hh4, n4, m4, s4, t4⟩
      · simp at q
      · simp only [Value.slice.injEq, Option.some.injEq, Addr.mk.injEq, and_true, true_and] at e4
        obtain ⟨rfl, rfl⟩ := e4
        refine ⟨hr.1, .inr ⟨g2, c2, cur4, rfl, b2, hh4, n2, m2, by rw [s4, hc2, hcap], ?_⟩⟩
        rw [← rep_take m N mk hm, ← t4, List.take_take, Nat.min_eq_left (Nat.mul_le_mul_right _ hm)]
theorem append_fy {P : Program} {w : World} {ops : Array Oper} {rest : List Oper} {o : Oper} {a : Act} {Q : Exit → Act → World → Prop} (hgd : o.guard = none) (s x : Operand) (t : TypeId)
    (ho : o.op = .call { callee := .builtin .append, args := #[s, x], argTypes := #[t, t] })
    (base : Nat) (e : TypeId) (i : TypeInfo) (z : Value) (bytes : Nat) (mk : List Value) (hmk : 0 < mk.length) (ht : P.underlying t = some (.slice e)) (hi : P.info? e = some i) (hz : i.zero = some z)
    (hsize : i.size = mk.length) (hby : i.bytes = bytes) (hzs : z.cells.size = mk.length)
    (lv : Value) (n T : Nat) (F : List (Value × Nat)) (hs : a.eval s = lv) (hf : Fy w base e mk lv n T F)
    (ad : Addr) (m c : Nat) (hx : a.eval x = .slice (some ad) m c) (hT : T ≤ m) (hnews : ∀ j u, (rep m mk)[j]? = some u → w.cell? (ad.add j) = some u) (h1 : ∀ u ∈ mk, u.oneCell' = true)
    (h63 : n + m ≤ maxLen) (hbytes : (n + m) * bytes ≤ 140737488355328) (hbase : base ≤ w.heap.size)
    (h : ∀ v' w', Hid (Fy w' base e mk lv n m (F ++ [(v', n + m)]) ∧ Ch (fun q => lv.ownBlock = some q) w w' ∧ (∀ q, v'.ownBlock = some q → lv.ownBlock = some q ∨ w.heap.size ≤ q) ∧ (∃ a2 c2, v' = .slice a2 (n + m) c2)) → wpList P ops Q rest (a.put o.dst v') w') : wpList P ops Q (o :: rest) a w := by
  refine append_splitW mk.length hmk hgd s x t ho base e i z bytes ht hi hz hsize hby hzs lv n (rep n mk) hs hf.own ad m c (rep m mk) hx (rep_len m mk) hnews ?_ h63 hbytes hbase ?_
  · intro u hu
    unfold rep at hu
    rw [List.mem_flatten] at hu
    obtain ⟨l, hl, hul⟩ := hu
    rw [List.mem_replicate] at hl
    rw [hl.2] at hul
    exact h1 u hul
  · intro v' w' r1 r2
    rw [← rep_add] at r1
    obtain ⟨a2, c2, hsh⟩ := owns_shape r1
    rcases r2 with ⟨g1, g2⟩ | ⟨g, cap, rfl, rfl, g1⟩
    · have k : Ch (fun _ => False) w w' := (Ch.ofGrown g1).mono (fun x _ q => by simp at q)
      refine h v' w' ⟨⟨k.owns hf.own (fun _ _ => id), ?_⟩, k.mono (fun _ _ q => q.elim), fun q hq => .inr (g2 q hq), ⟨a2, c2, hsh⟩⟩
      intro r hr
      rcases List.mem_append.1 hr with q | q
      · exact ⟨k.owns (hf.mem r q).1 (fun _ _ => id), by have := (hf.mem r q).2; omega⟩
      · rw [List.mem_singleton.1 q]; exact ⟨r1, Nat.le_refl _⟩
    · have k : Ch (fun q => q = g) w w' := (Ch.ofGrown g1).mono (fun x _ q => by simp at q; exact q.symm)
      refine h _ w' ⟨⟨?_, ?_⟩, k.mono (fun x _ q => by rw [q]; rfl), fun q hq => .inl hq, ⟨_, _, rfl⟩⟩
      · exact owns_prefix hmk r1 hf.own rfl hf.own rfl (by omega)
      · intro r hr
        rcases List.mem_append.1 hr with q | q
        · have hm := hf.mem r q
          refine ⟨?_, by omega⟩
          by_cases e : r.1.ownBlock = some g
          · exact owns_prefix hmk r1 hm.1 e hf.own rfl (by omega)
          · exact k.owns hm.1 (fun x hx e2 => e (by rw [← e2]; exact hx))
        · rw [List.mem_singleton.1 q]; exact ⟨r1, Nat.le_refl _⟩
end H11
end Go.Proofs.Ytcoaghcmbhogjaa
namespace Go.Proofs.Ytcoaghcmbhogjaa
open Go.RowKit Go.Maps
namespace H11

theorem apartT {w : World} {B B' sz sz' : Nat} {e e' : TypeId} {v v' : Value} {n n' : Nat} {xs xs' : List Value} (h : w.ownsRow B e sz v n xs) (h' : w.ownsRow B' e' sz' v' n' xs') (hne : e ≠ e') : ∀ g, v.ownBlock = some g → ¬ v'.ownBlock = some g := by
  intro g hg hg'
  rcases h.2 with ⟨rfl, _⟩ | ⟨q, cap, cur, rfl, _, hh, _⟩
  · simp [Value.ownBlock] at hg
  · rcases h'.2 with ⟨rfl, _⟩ | ⟨q', cap', cur', rfl, _, hh', _⟩
    · simp [Value.ownBlock] at hg'
    · simp only [Value.ownBlock, Option.some.injEq] at hg hg'
      subst hg
      subst hg'
      rw [hh] at hh'
      simp only [Option.some.injEq, Obj.cells.injEq] at hh'
      exact hne hh'.2.1

structure BV where
  hb : Value
  hg : Value
  hm : Value
  hn : Value
  E : List (Value × Nat × Nat)
  G : List (Value × Nat × Int)
  Mb : List Nat
  Mg : List Int
def eOk (w : World) (r : Value × Nat × Nat) : Prop := w.ownsRow 0 5 1 r.1 r.2.1 (rep r.2.1 [.int .u8 (r.2.2 : Int)])
def gOk (w : World) (r : Value × Nat × Int) : Prop := w.ownsRow 0 45 2 r.1 r.2.1 (rep r.2.1 [.int .i64 r.2.2, .int .i64 r.2.2])
def BB (K : Nat) (b : BV) (x : Nat) : Prop := x = K ∨ b.hb.ownBlock = some x ∨ b.hg.ownBlock = some x ∨ b.hm.ownBlock = some x ∨ b.hn.ownBlock = some x ∨ (∃ r, r ∈ b.E ∧ r.1.ownBlock = some x) ∨ (∃ r, r ∈ b.G ∧ r.1.ownBlock = some x)
structure BkM (w : World) (K : Nat) (b : BV) : Prop where
  c0 : w.cell? ⟨K, 0, none⟩ = some b.hb
  c1 : w.cell? ⟨K, 1, none⟩ = some b.hg
  c2 : w.cell? ⟨K, 2, none⟩ = some b.hm
  c3 : w.cell? ⟨K, 3, none⟩ = some b.hn
  fz : ∀ j, w.frozen? ⟨K, j, none⟩ = false
  ob : w.ownsRow 0 22 1 b.hb b.E.length (b.E.map (fun r => r.1))
  og : w.ownsRow 0 43 1 b.hg b.G.length (b.G.map (fun r => r.1))
  om : w.ownsRow 0 5 1 b.hm b.Mb.length (b.Mb.map (fun x : Nat => Value.int .u8 (x : Int)))
  on : w.ownsRow 0 3 1 b.hn b.Mg.length (b.Mg.map (fun x : Int => Value.int .i64 x))
  eb : ∀ r, r ∈ b.E → eOk w r
  eg : ∀ r, r ∈ b.G → gOk w r
  nK : ∀ q, (b.hb.ownBlock = some q ∨ b.hg.ownBlock = some q ∨ b.hm.ownBlock = some q ∨ b.hn.ownBlock = some q ∨ (∃ r, r ∈ b.E ∧ r.1.ownBlock = some q) ∨ (∃ r, r ∈ b.G ∧ r.1.ownBlock = some q)) → q ≠ K
  nm : ∀ r, r ∈ b.E → ∀ q, r.1.ownBlock = some q → b.hm.ownBlock ≠ some q
section
variable {w : World} {K : Nat} {b : BV} (h : BkM w K b)
include h
theorem BkM.lt : ∀ x, BB K b x → x < w.heap.size := by
  rintro x (rfl | hx | hx | hx | hx | ⟨r, hr, hx⟩ | ⟨r, hr, hx⟩)
  · exact World.block_lt_of_cell? w ⟨x, 0, none⟩ h.c0
  · exact (h.ob.lt x hx).2
  · exact (h.og.lt x hx).2
  · exact (h.om.lt x hx).2
  · exact (h.on.lt x hx).2
  · exact ((h.eb r hr).lt x hx).2
  · exact ((h.eg r hr).lt x hx).2
theorem BkM.ch {T : Nat → Prop} {w' : World} (k : Ch T w w') (hT : ∀ x, BB K b x → ¬ T x) : BkM w' K b where
  c0 := k.cell h.c0 (hT K (.inl rfl))
  c1 := k.cell h.c1 (hT K (.inl rfl))
  c2 := k.cell h.c2 (hT K (.inl rfl))
  c3 := k.cell h.c3 (hT K (.inl rfl))
  fz := fun j => (k.frozen (p := ⟨K, j, none⟩) (h.lt K (.inl rfl)) (hT K (.inl rfl))).trans (h.fz j)
  ob := k.owns h.ob (fun g hg => hT g (.inr (.inl hg)))
  og := k.owns h.og (fun g hg => hT g (.inr (.inr (.inl hg))))
  om := k.owns h.om (fun g hg => hT g (.inr (.inr (.inr (.inl hg)))))
  on := k.owns h.on (fun g hg => hT g (.inr (.inr (.inr (.inr (.inl hg))))))
  eb := fun r hr => k.owns (h.eb r hr) (fun g hg => hT g (.inr (.inr (.inr (.inr (.inr (.inl ⟨r, hr, hg⟩)))))))
  eg := fun r hr => k.owns (h.eg r hr) (fun g hg => hT g (.inr (.inr (.inr (.inr (.inr (.inr ⟨r, hr, hg⟩)))))))
  nK := h.nK
  nm := h.nm
theorem BkM.below {w' : World} (k : Below w.heap.size w w') : BkM w' K b := h.ch (Ch.ofBelow (S := fun _ => False) k) (fun _ _ => id)
theorem BkM.setB {w1 : World} (c : Ch (fun q => b.hb.ownBlock = some q) w w1) (u : Value) (E' : List (Value × Nat × Nat)) (ho : w1.ownsRow 0 22 1 u E'.length (E'.map (fun r => r.1)))
    (hn : ∀ q, u.ownBlock = some q → b.hb.ownBlock = some q ∨ w.heap.size ≤ q) (he : ∀ r, r ∈ E' → eOk w1 r) (hK : ∀ r, r ∈ E' → r.1.ownBlock ≠ some K) (hm : ∀ r, r ∈ E' → ∀ q, r.1.ownBlock = some q → b.hm.ownBlock ≠ some q) : BkM (w1.setCell ⟨K, 0, none⟩ u) K { b with hb := u, E := E' } := by
  have hlt := h.lt
  have kK : ¬ b.hb.ownBlock = some K := fun e => h.nK K (.inl e) rfl
  have k2 : Ch (fun q => q = K) w1 (w1.setCell ⟨K, 0, none⟩ u) := (Ch.refl _ w1).set _ _ rfl
  have nK' : u.ownBlock ≠ some K := by
    intro e
    rcases hn K e with k | k
    · exact kK k
    · have := hlt K (.inl rfl); omega
  have cK : ∀ {j : Nat} {z : Value}, w.cell? ⟨K, j, none⟩ = some z → j ≠ 0 → (w1.setCell ⟨K, 0, none⟩ u).cell? ⟨K, j, none⟩ = some z := by
    intro j z hz hj
    rw [cell_ne _ _ _ _ _ hj]
    exact c.cell hz kK
  refine ⟨World.cell?_setCell_same _ _ _ (c.cell h.c0 kK), cK h.c1 (by omega), cK h.c2 (by omega), cK h.c3 (by omega), ?fz, k2.owns ho (fun g hg e => nK' (by rw [← e]; exact hg)), k2.owns (c.owns h.og (fun g hg e => apartT h.ob h.og (by decide) g e hg)) (fun g hg e => h.nK g (.inr (.inl hg)) e), k2.owns (c.owns h.om (fun g hg e => apartT h.ob h.om (by decide) g e hg)) (fun g hg e => h.nK g (.inr (.inr (.inl hg))) e), k2.owns (c.owns h.on (fun g hg e => apartT h.ob h.on (by decide) g e hg)) (fun g hg e => h.nK g (.inr (.inr (.inr (.inl hg)))) e), fun r hr => k2.owns (he r hr) (fun g hg e => hK r hr (by rw [← e]; exact hg)), fun r hr => k2.owns (c.owns (h.eg r hr) (fun g hg e => apartT h.ob (h.eg r hr) (by decide) g e hg)) (fun g hg e => h.nK g (.inr (.inr (.inr (.inr (.inr ⟨r, hr, hg⟩))))) e), ?nk, ?nm⟩
  case fz =>
    intro j
    rw [World.frozen?_setCell]
    exact (c.frozen (p := ⟨K, j, none⟩) (hlt K (.inl rfl)) kK).trans (h.fz j)
  case nk =>
    intro q hq e
    subst e
    rcases hq with hq | hq | hq | hq | ⟨r, hr, hq⟩ | ⟨r, hr, hq⟩
    · exact nK' hq
    · exact h.nK _ (.inr (.inl hq)) rfl
    · exact h.nK _ (.inr (.inr (.inl hq))) rfl
    · exact h.nK _ (.inr (.inr (.inr (.inl hq)))) rfl
    · exact hK r hr hq
    · exact h.nK _ (.inr (.inr (.inr (.inr (.inr ⟨r, hr, hq⟩))))) rfl
  case nm =>
    exact hm
theorem BkM.setG {w1 : World} (c : Ch (fun q => b.hg.ownBlock = some q) w w1) (u : Value) (G' : List (Value × Nat × Int)) (ho : w1.ownsRow 0 43 1 u G'.length (G'.map (fun r => r.1)))
    (hn : ∀ q, u.ownBlock = some q → b.hg.ownBlock = some q ∨ w.heap.size ≤ q) (he : ∀ r, r ∈ G' → gOk w1 r) (hK : ∀ r, r ∈ G' → r.1.ownBlock ≠ some K) : BkM (w1.setCell ⟨K, 1, none⟩ u) K { b with hg := u, G := G' } := by
  have hlt := h.lt
  have kK : ¬ b.hg.ownBlock = some K := fun e => h.nK K (.inr (.inl e)) rfl
  have k2 : Ch (fun q => q = K) w1 (w1.setCell ⟨K, 1, none⟩ u) := (Ch.refl _ w1).set _ _ rfl
  have nK' : u.ownBlock ≠ some K := by
    intro e
    rcases hn K e with k | k
    · exact kK k
    · have := hlt K (.inl rfl); omega
  have cK : ∀ {j : Nat} {z : Value}, w.cell? ⟨K, j, none⟩ = some z → j ≠ 1 → (w1.setCell ⟨K, 1, none⟩ u).cell? ⟨K, j, none⟩ = some z := by
    intro j z hz hj
    rw [cell_ne _ _ _ _ _ hj]
    exact c.cell hz kK
  refine ⟨cK h.c0 (by omega), World.cell?_setCell_same _ _ _ (c.cell h.c1 kK), cK h.c2 (by omega), cK h.c3 (by omega), ?fz, k2.owns (c.owns h.ob (fun g hg e => apartT h.og h.ob (by decide) g e hg)) (fun g hg e => h.nK g (.inl hg) e), k2.owns ho (fun g hg e => nK' (by rw [← e]; exact hg)), k2.owns (c.owns h.om (fun g hg e => apartT h.og h.om (by decide) g e hg)) (fun g hg e => h.nK g (.inr (.inr (.inl hg))) e), k2.owns (c.owns h.on (fun g hg e => apartT h.og h.on (by decide) g e hg)) (fun g hg e => h.nK g (.inr (.inr (.inr (.inl hg)))) e), fun r hr => k2.owns (c.owns (h.eb r hr) (fun g hg e => apartT h.og (h.eb r hr) (by decide) g e hg)) (fun g hg e => h.nK g (.inr (.inr (.inr (.inr (.inl ⟨r, hr, hg⟩))))) e), fun r hr => k2.owns (he r hr) (fun g hg e => hK r hr (by rw [← e]; exact hg)), ?nk, ?nm⟩
  case fz =>
    intro j
    rw [World.frozen?_setCell]
    exact (c.frozen (p := ⟨K, j, none⟩) (hlt K (.inl rfl)) kK).trans (h.fz j)
  case nk =>
    intro q hq e
    subst e
    rcases hq with hq | hq | hq | hq | ⟨r, hr, hq⟩ | ⟨r, hr, hq⟩
    · exact h.nK _ (.inl hq) rfl
    · exact nK' hq
    · exact h.nK _ (.inr (.inr (.inl hq))) rfl
    · exact h.nK _ (.inr (.inr (.inr (.inl hq)))) rfl
    · exact h.nK _ (.inr (.inr (.inr (.inr (.inl ⟨r, hr, hq⟩))))) rfl
    · exact hK r hr hq
  case nm =>
    exact h.nm
theorem BkM.setM {w1 : World} (c : Ch (fun q => b.hm.ownBlock = some q) w w1) (u : Value) (Mb' : List Nat) (ho : w1.ownsRow 0 5 1 u Mb'.length (Mb'.map (fun x : Nat => Value.int .u8 (x : Int))))
    (hn : ∀ q, u.ownBlock = some q → b.hm.ownBlock = some q ∨ w.heap.size ≤ q) : BkM (w1.setCell ⟨K, 2, none⟩ u) K { b with hm := u, Mb := Mb' } := by
  have hlt := h.lt
  have kK : ¬ b.hm.ownBlock = some K := fun e => h.nK K (.inr (.inr (.inl e))) rfl
  have k2 : Ch (fun q => q = K) w1 (w1.setCell ⟨K, 2, none⟩ u) := (Ch.refl _ w1).set _ _ rfl
  have nK' : u.ownBlock ≠ some K := by
    intro e
    rcases hn K e with k | k
    · exact kK k
    · have := hlt K (.inl rfl); omega
  have cK : ∀ {j : Nat} {z : Value}, w.cell? ⟨K, j, none⟩ = some z → j ≠ 2 → (w1.setCell ⟨K, 2, none⟩ u).cell? ⟨K, j, none⟩ = some z := by
    intro j z hz hj
    rw [cell_ne _ _ _ _ _ hj]
    exact c.cell hz kK
  refine ⟨cK h.c0 (by omega), cK h.c1 (by omega), World.cell?_setCell_same _ _ _ (c.cell h.c2 kK), cK h.c3 (by omega), ?fz, k2.owns (c.owns h.ob (fun g hg e => apartT h.om h.ob (by decide) g e hg)) (fun g hg e => h.nK g (.inl hg) e), k2.owns (c.owns h.og (fun g hg e => apartT h.om h.og (by decide) g e hg)) (fun g hg e => h.nK g (.inr (.inl hg)) e), k2.owns ho (fun g hg e => nK' (by rw [← e]; exact hg)), k2.owns (c.owns h.on (fun g hg e => apartT h.om h.on (by decide) g e hg)) (fun g hg e => h.nK g (.inr (.inr (.inr (.inl hg)))) e), fun r hr => k2.owns (c.owns (h.eb r hr) (fun g hg e => h.nm r hr g hg e)) (fun g hg e => h.nK g (.inr (.inr (.inr (.inr (.inl ⟨r, hr, hg⟩))))) e), fun r hr => k2.owns (c.owns (h.eg r hr) (fun g hg e => apartT h.om (h.eg r hr) (by decide) g e hg)) (fun g hg e => h.nK g (.inr (.inr (.inr (.inr (.inr ⟨r, hr, hg⟩))))) e), ?nk, ?nm⟩
  case fz =>
    intro j
    rw [World.frozen?_setCell]
    exact (c.frozen (p := ⟨K, j, none⟩) (hlt K (.inl rfl)) kK).trans (h.fz j)
  case nk =>
    intro q hq e
    subst e
    rcases hq with hq | hq | hq | hq | ⟨r, hr, hq⟩ | ⟨r, hr, hq⟩
    · exact h.nK _ (.inl hq) rfl
    · exact h.nK _ (.inr (.inl hq)) rfl
    · exact nK' hq
    · exact h.nK _ (.inr (.inr (.inr (.inl hq)))) rfl
    · exact h.nK _ (.inr (.inr (.inr (.inr (.inl ⟨r, hr, hq⟩))))) rfl
    · exact h.nK _ (.inr (.inr (.inr (.inr (.inr ⟨r, hr, hq⟩))))) rfl
  case nm =>
    intro r hr q hq e
    rcases hn q e with k | k
    · exact h.nm r hr q hq k
    · have := ((h.eb r hr).lt q hq).2; omega
theorem BkM.setN {w1 : World} (c : Ch (fun q => b.hn.ownBlock = some q) w w1) (u : Value) (Mg' : List Int) (ho : w1.ownsRow 0 3 1 u Mg'.length (Mg'.map (fun x : Int => Value.int .i64 x)))
    (hn : ∀ q, u.ownBlock = some q → b.hn.ownBlock = some q ∨ w.heap.size ≤ q) : BkM (w1.setCell ⟨K, 3, none⟩ u) K { b with hn := u, Mg := Mg' } := by
  have hlt := h.lt
  have kK : ¬ b.hn.ownBlock = some K := fun e => h.nK K (.inr (.inr (.inr (.inl e)))) rfl
  have k2 : Ch (fun q => q = K) w1 (w1.setCell ⟨K, 3, none⟩ u) := (Ch.refl _ w1).set _ _ rfl
  have nK' : u.ownBlock ≠ some K := by
    intro e
    rcases hn K e with k | k
    · exact kK k
    · have := hlt K (.inl rfl); omega
  have cK : ∀ {j : Nat} {z : Value}, w.cell? ⟨K, j, none⟩ = some z → j ≠ 3 → (w1.setCell ⟨K, 3, none⟩ u).cell? ⟨K, j, none⟩ = some z := by
    intro j z hz hj
    rw [cell_ne _ _ _ _ _ hj]
    exact c.cell hz kK
  refine ⟨cK h.c0 (by omega), cK h.c1 (by omega), cK h.c2 (by omega), World.cell?_setCell_same _ _ _ (c.cell h.c3 kK), ?fz, k2.owns (c.owns h.ob (fun g hg e => apartT h.on h.ob (by decide) g e hg)) (fun g hg e => h.nK g (.inl hg) e), k2.owns (c.owns h.og (fun g hg e => apartT h.on h.og (by decide) g e hg)) (fun g hg e => h.nK g (.inr (.inl hg)) e), k2.owns (c.owns h.om (fun g hg e => apartT h.on h.om (by decide) g e hg)) (fun g hg e => h.nK g (.inr (.inr (.inl hg))) e), k2.owns ho (fun g hg e => nK' (by rw [← e]; exact hg)), fun r hr => k2.owns (c.owns (h.eb r hr) (fun g hg e => apartT h.on (h.eb r hr) (by decide) g e hg)) (fun g hg e => h.nK g (.inr (.inr (.inr (.inr (.inl ⟨r, hr, hg⟩))))) e), fun r hr => k2.owns (c.owns (h.eg r hr) (fun g hg e => apartT h.on (h.eg r hr) (by decide) g e hg)) (fun g hg e => h.nK g (.inr (.inr (.inr (.inr (.inr ⟨r, hr, hg⟩))))) e), ?nk, ?nm⟩
  case fz =>
    intro j
    rw [World.frozen?_setCell]
    exact (c.frozen (p := ⟨K, j, none⟩) (hlt K (.inl rfl)) kK).trans (h.fz j)
  case nk =>
    intro q hq e
    subst e
    rcases hq with hq | hq | hq | hq | ⟨r, hr, hq⟩ | ⟨r, hr, hq⟩
    · exact h.nK _ (.inl hq) rfl
    · exact h.nK _ (.inr (.inl hq)) rfl
    · exact h.nK _ (.inr (.inr (.inl hq))) rfl
    · exact nK' hq
    · exact h.nK _ (.inr (.inr (.inr (.inr (.inl ⟨r, hr, hq⟩))))) rfl
    · exact h.nK _ (.inr (.inr (.inr (.inr (.inr ⟨r, hr, hq⟩))))) rfl
  case nm =>
    exact h.nm
end
end H11
end Go.Proofs.Ytcoaghcmbhogjaa
namespace Go.Proofs.Ytcoaghcmbhogjaa
open Go.RowKit Go.Maps
namespace H11
theorem Try.infoBytesRow : (Try.prog.info? 22).map (fun i => (i.zero, i.size, i.bytes)) = some (some (.slice none 0 0), 1, 24) := by kernel_rfl
theorem Try.infoGapsRow : (Try.prog.info? 43).map (fun i => (i.zero, i.size, i.bytes)) = some (some (.slice none 0 0), 1, 24) := by kernel_rfl
theorem Try.infoInt : (Try.prog.info? 3).map (fun i => (i.zero, i.size, i.bytes)) = some (some (.int .i64 0), 1, 8) := by kernel_rfl
structure ByS (w0 : World) (BK : Nat) (b : BV) (e : TypeId) (mk : List Value) (lv : Value) (n T : Nat) (F : List (Value × Nat)) (A : List (Nat × Nat)) (W : World) : Prop where
  fy : Fy W 0 e mk lv n T F
  bk : BkM W BK b
  ch : Ch (fun q => lv.ownBlock = some q) w0 W
  al : ∀ p, p ∈ A → (∀ j u, (rep p.2 mk)[j]? = some u → W.cell? ⟨p.1, j, none⟩ = some u) ∧ lv.ownBlock ≠ some p.1
  nb : ∀ q, lv.ownBlock = some q → ¬ BB BK b q
  fn : ∀ r, r ∈ F → ∀ q, r.1.ownBlock = some q → lv.ownBlock = some q ∨ w0.heap.size ≤ q
section
variable {w0 : World} {BK : Nat} {b : BV} {e : TypeId} {mk : List Value} {lv : Value} {n T : Nat} {F : List (Value × Nat)} {A : List (Nat × Nat)} {W : World} (h : ByS w0 BK b e mk lv n T F A W)
include h
theorem ByS.below {w' : World} (k : Below W.heap.size W w') : ByS w0 BK b e mk lv n T F A w' := by
  refine ⟨h.fy.below k, h.bk.below k, h.ch.trans (Ch.ofBelow (S := fun _ => False) k) (fun _ _ q => q.elim), fun p hp => ⟨fun j u hu => ?_, (h.al p hp).2⟩, h.nb, h.fn⟩
  have := (h.al p hp).1 j u hu
  exact (World.cell?_of_block (k.block p.1 (World.block_lt_of_cell? W _ this))).trans this
theorem ByS.new (k : Nat) (cs : Array Value) (t : TypeId) (hcs : cs.toList = rep k mk) : ByS w0 BK b e mk lv n T F ((W.heap.size, k) :: A) (W.alloc (.cells cs t)) := by
  have hb : Below W.heap.size W (W.alloc (.cells cs t)) := (Below.refl _ _).alloc (Nat.le_refl _) _
  have h1 := h.below hb
  refine ⟨h1.fy, h1.bk, h1.ch, ?_, h1.nb, h1.fn⟩
  intro p hp
  rcases List.mem_cons.1 hp with rfl | hp
  · refine ⟨fun j u hu => ?_, fun q => ?_⟩
    · rw [World.cell?_alloc_at _ _ _ _ rfl, ← Array.getElem?_toList, hcs]
      exact hu
    · have := (h.fy.own.lt _ q).2
      simp only at this
      omega
  · exact h1.al p hp
theorem ByS.app {w' : World} {m : Nat} {v' : Value} (f1 : Fy w' 0 e mk lv n m (F ++ [(v', n + m)])) (f2 : Ch (fun q => lv.ownBlock = some q) W w') (f3 : ∀ q, v'.ownBlock = some q → lv.ownBlock = some q ∨ W.heap.size ≤ q) : ByS w0 BK b e mk lv n m (F ++ [(v', n + m)]) A w' := by
  refine ⟨f1, h.bk.ch f2 (fun x hx q => h.nb x q hx), h.ch.trans f2 (fun _ _ q => q), fun p hp => ⟨fun j u hu => f2.cell ((h.al p hp).1 j u hu) (h.al p hp).2, (h.al p hp).2⟩, h.nb, ?_⟩
  intro r hr q hq
  rcases List.mem_append.1 hr with k | k
  · exact h.fn r k q hq
  · rw [List.mem_singleton.1 k] at hq
    rcases f3 q hq with z | z
    · exact .inl z
    · exact .inr (Nat.le_trans h.ch.size z)
theorem ByS.news {X k : Nat} (hp : (X, k) ∈ A) : ∀ j u, (rep k mk)[j]? = some u → W.cell? ((⟨X, 0, none⟩ : Addr).add j) = some u := by
  intro j u hu
  rw [Addr.add_lit, Nat.zero_add]
  exact (h.al _ hp).1 j u hu
theorem ByS.weak {F' : List (Value × Nat)} {A' : List (Nat × Nat)} (hF : ∀ r, r ∈ F' → r ∈ F) (hA : ∀ p, p ∈ A' → p ∈ A) : ByS w0 BK b e mk lv n T F' A' W :=
  ⟨⟨h.fy.own, fun r hr => h.fy.mem r (hF r hr)⟩, h.bk, h.ch, fun p hp => h.al p (hA p hp), h.nb, fun r hr => h.fn r (hF r hr)⟩
end
/-- the header's row is longer by what was appended -/
theorem res_bytes {w W W' : World} {BK m n N T : Nat} {b : BV} {lv : Value} {F : List (Value × Nat)} {A : List (Nat × Nat)} {ba : Option Addr} {bc : Nat} (H : ByS w BK b 5 [.int .u8 (m : Int)] lv n T F A W) (hlt : ∀ x, BB BK b x → x < w.heap.size) (hbv : b.hb = .slice ba N bc) (hN : b.E.length = N) {u : Value} (vs : List (Value × Nat)) (hvs : ∀ r, r ∈ vs → r = (lv, n) ∨ r ∈ F)
    (r1 : W'.ownsRow 0 22 1 u (N + vs.length) (b.E.map (fun r => r.1) ++ vs.map (fun r => r.1))) (r2 : W.grownBy W' (Value.slice ba N bc).ownBlock) (r4 : u.ownBlock = (Value.slice ba N bc).ownBlock ∨ u.ownBlock = some W.heap.size) :
    BkM (W'.setCell ⟨BK, 0, none⟩ u) BK { b with hb := u, E := b.E ++ vs.map (fun r => (r.1, r.2, m)) } ∧ Ch (fun x => BB BK b x ∨ lv.ownBlock = some x) w (W'.setCell ⟨BK, 0, none⟩ u) ∧ (∀ x, BB BK { b with hb := u, E := b.E ++ vs.map (fun r => (r.1, r.2, m)) } x → BB BK b x ∨ lv.ownBlock = some x ∨ w.heap.size ≤ x) := by
  have cc : Ch (fun q => b.hb.ownBlock = some q) W W' := (Ch.ofGrown r2).mono (fun x _ q => by rw [hbv]; exact q)
  have hme : ∀ r, r ∈ vs → W.ownsRow 0 5 1 r.1 r.2 (rep r.2 [.int .u8 (m : Int)]) ∧ ∀ q, r.1.ownBlock = some q → lv.ownBlock = some q ∨ w.heap.size ≤ q := by
    intro r hr
    rcases hvs r hr with rfl | k
    · exact ⟨H.fy.own, fun q hq => .inl hq⟩
    · exact ⟨(H.fy.mem r k).1, H.fn r k⟩
  have hmb : ∀ r, r ∈ vs → ∀ q, r.1.ownBlock = some q → ¬ BB BK b q := by
    intro r hr q hq z
    rcases (hme r hr).2 q hq with k | k
    · exact H.nb q k z
    · have := hlt q z; omega
  have hn : ∀ q, u.ownBlock = some q → b.hb.ownBlock = some q ∨ W.heap.size ≤ q := by
    intro q hq
    rcases r4 with k | k
    · exact .inl (by rw [hbv, ← k]; exact hq)
    · rw [k] at hq
      simp only [Option.some.injEq] at hq
      exact .inr (by omega)
  refine ⟨H.bk.setB cc u (b.E ++ vs.map (fun r => (r.1, r.2, m))) ?_ hn ?_ ?_ ?_, ?_, ?_⟩
  · rw [List.length_append, hN, List.length_map, List.map_append, List.map_map]
    exact r1
  · intro r hr
    rcases List.mem_append.1 hr with k | k
    · exact cc.owns (H.bk.eb r k) (fun g hg e => apartT H.bk.ob (H.bk.eb r k) (by decide) g e hg)
    · obtain ⟨x, hx, rfl⟩ := List.mem_map.1 k
      exact cc.owns (hme x hx).1 (fun g hg e => apartT H.bk.ob (hme x hx).1 (by decide) g e hg)
  · intro r hr e
    rcases List.mem_append.1 hr with k | k
    · exact H.bk.nK BK (.inr (.inr (.inr (.inr (.inl ⟨r, k, e⟩))))) rfl
    · obtain ⟨x, hx, rfl⟩ := List.mem_map.1 k
      exact hmb x hx BK e (.inl rfl)
  · intro r hr q hq e
    rcases List.mem_append.1 hr with k | k
    · exact H.bk.nm r k q hq e
    · obtain ⟨x, hx, rfl⟩ := List.mem_map.1 k
      exact hmb x hx q hq (.inr (.inr (.inr (.inl e))))
  · refine ((H.ch.mono (T := fun x => BB BK b x ∨ lv.ownBlock = some x) (fun x _ q => .inr q)).trans cc (fun x _ q => .inl (.inr (.inl q)))).trans ((Ch.refl (fun q => q = BK) W').set ⟨BK, 0, none⟩ u rfl) (fun x _ q => .inl (.inl q))
  · have hsz := H.ch.size
    rintro x (rfl | hx | hx | hx | hx | ⟨r, hr, hx⟩ | ⟨r, hr, hx⟩)
    · exact .inl (.inl rfl)
    · rcases hn x hx with k | k
      · exact .inl (.inr (.inl k))
      · exact .inr (.inr (by omega))
    · exact .inl (.inr (.inr (.inl hx)))
    · exact .inl (.inr (.inr (.inr (.inl hx))))
    · exact .inl (.inr (.inr (.inr (.inr (.inl hx)))))
    · rcases List.mem_append.1 hr with k | k
      · exact .inl (.inr (.inr (.inr (.inr (.inr (.inl ⟨r, k, hx⟩))))))
      · obtain ⟨y, hy, rfl⟩ := List.mem_map.1 k
        exact .inr ((hme y hy).2 x hx)
    · exact .inl (.inr (.inr (.inr (.inr (.inr (.inr ⟨r, hr, hx⟩))))))
/-- the marks' row -/
theorem res_marks {W W' : World} {BK N : Nat} {b : BV} {ba : Option Addr} {bc : Nat} (h : BkM W BK b) (hbv : b.hm = .slice ba N bc) (hN : b.Mb.length = N) {u : Value} (ms : List Nat)
    (r1 : W'.ownsRow 0 5 1 u (N + ms.length) (b.Mb.map (fun x : Nat => Value.int .u8 (x : Int)) ++ ms.map (fun x : Nat => Value.int .u8 (x : Int)))) (r2 : W.grownBy W' (Value.slice ba N bc).ownBlock) (r4 : u.ownBlock = (Value.slice ba N bc).ownBlock ∨ u.ownBlock = some W.heap.size) :
    BkM (W'.setCell ⟨BK, 2, none⟩ u) BK { b with hm := u, Mb := b.Mb ++ ms } ∧ Ch (BB BK b) W (W'.setCell ⟨BK, 2, none⟩ u) ∧ (∀ x, BB BK { b with hm := u, Mb := b.Mb ++ ms } x → BB BK b x ∨ W.heap.size ≤ x) := by
  have cc : Ch (fun q => b.hm.ownBlock = some q) W W' := (Ch.ofGrown r2).mono (fun x _ q => by rw [hbv]; exact q)
  have hn : ∀ q, u.ownBlock = some q → b.hm.ownBlock = some q ∨ W.heap.size ≤ q := by
    intro q hq
    rcases r4 with k | k
    · exact .inl (by rw [hbv, ← k]; exact hq)
    · rw [k] at hq
      simp only [Option.some.injEq] at hq
      exact .inr (by omega)
  refine ⟨h.setM cc u (b.Mb ++ ms) ?_ hn, ?_, ?_⟩
  · rw [List.length_append, hN, List.map_append]
    exact r1
  · exact (cc.mono (T := BB BK b) (fun x _ q => .inr (.inr (.inr (.inl q))))).trans ((Ch.refl (fun q => q = BK) W').set ⟨BK, 2, none⟩ u rfl) (fun x _ q => .inl q)
  · rintro x (rfl | hx | hx | hx | hx | hx | hx)
    · exact .inl (.inl rfl)
    · exact .inl (.inr (.inl hx))
    · exact .inl (.inr (.inr (.inl hx)))
    · rcases hn x hx with k | k
      · exact .inl (.inr (.inr (.inr (.inl k))))
      · exact .inr k
    · exact .inl (.inr (.inr (.inr (.inr (.inl hx)))))
    · exact .inl (.inr (.inr (.inr (.inr (.inr (.inl hx))))))
    · exact .inl (.inr (.inr (.inr (.inr (.inr (.inr hx))))))
theorem row_fill {w : World} {g n c k m : Nat} {xs : List Value} (h : w.ownsRow 0 5 1 (.slice (some ⟨g, 0, none⟩) n c) n (rep k [.int .u8 (m : Int)] ++ xs.drop k)) (hl : xs.length = n) (hk : k < n) : (w.setCell ⟨g, k, none⟩ (.int .u8 (m : Int))).ownsRow 0 5 1 (.slice (some ⟨g, 0, none⟩) n c) n (rep (k + 1) [.int .u8 (m : Int)] ++ xs.drop (k + 1)) := by
  have h1 := (h.stored k (.int .u8 (m : Int))).1
  have e : (rep k [.int .u8 (m : Int)] ++ xs.drop k).set k (.int .u8 (m : Int)) = rep (k + 1) [.int .u8 (m : Int)] ++ xs.drop (k + 1) := by
    rw [List.set_append_right _ _ (by rw [rep_len]; simp), rep_len, rep_add, List.drop_eq_getElem_cons (show k < xs.length by omega), show k - k * [Value.int .u8 (m : Int)].length = 0 by simp, List.set_cons_zero, List.append_assoc]
    rfl
  rw [e] at h1
  exact h1
theorem fourW (w : World) (x y z t : Value) (T : TypeId) : ∀ j u, ([x, y, z, t] : List Value)[j]? = some u → (w.alloc (.cells #[x, y, z, t] T)).cell? ((⟨w.heap.size, 0, none⟩ : Addr).add j) = some u := by
  intro j u hu
  rw [Addr.add_lit, Nat.zero_add, World.cell?_alloc_at _ _ _ _ rfl]
  simpa using hu
end H11
end Go.Proofs.Ytcoaghcmbhogjaa
namespace Go.Proofs.Ytcoaghcmbhogjaa
open Go.RowKit Go.Maps
namespace H11
/-- the header's row is longer by what was appended -/
theorem res_gaps {w W W' : World} {BK n N T : Nat} {m : Int} {b : BV} {lv : Value} {F : List (Value × Nat)} {A : List (Nat × Nat)} {ba : Option Addr} {bc : Nat} (H : ByS w BK b 45 [.int .i64 m, .int .i64 m] lv n T F A W) (hlt : ∀ x, BB BK b x → x < w.heap.size) (hbv : b.hg = .slice ba N bc) (hN : b.G.length = N) {u : Value} (vs : List (Value × Nat)) (hvs : ∀ r, r ∈ vs → r = (lv, n) ∨ r ∈ F)
    (r1 : W'.ownsRow 0 43 1 u (N + vs.length) (b.G.map (fun r => r.1) ++ vs.map (fun r => r.1))) (r2 : W.grownBy W' (Value.slice ba N bc).ownBlock) (r4 : u.ownBlock = (Value.slice ba N bc).ownBlock ∨ u.ownBlock = some W.heap.size) :
    BkM (W'.setCell ⟨BK, 1, none⟩ u) BK { b with hg := u, G := b.G ++ vs.map (fun r => (r.1, r.2, m)) } ∧ Ch (fun x => BB BK b x ∨ lv.ownBlock = some x) w (W'.setCell ⟨BK, 1, none⟩ u) ∧ (∀ x, BB BK { b with hg := u, G := b.G ++ vs.map (fun r => (r.1, r.2, m)) } x → BB BK b x ∨ lv.ownBlock = some x ∨ w.heap.size ≤ x) := by
  have cc : Ch (fun q => b.hg.ownBlock = some q) W W' := (Ch.ofGrown r2).mono (fun x _ q => by rw [hbv]; exact q)
  have hme : ∀ r, r ∈ vs → W.ownsRow 0 45 2 r.1 r.2 (rep r.2 [.int .i64 m, .int .i64 m]) ∧ ∀ q, r.1.ownBlock = some q → lv.ownBlock = some q ∨ w.heap.size ≤ q := by
    intro r hr
    rcases hvs r hr with rfl | k
    · exact ⟨H.fy.own, fun q hq => .inl hq⟩
    · exact ⟨(H.fy.mem r k).1, H.fn r k⟩
  have hmb : ∀ r, r ∈ vs → ∀ q, r.1.ownBlock = some q → ¬ BB BK b q := by
    intro r hr q hq z
    rcases (hme r hr).2 q hq with k | k
    · exact H.nb q k z
    · have := hlt q z; omega
  have hn : ∀ q, u.ownBlock = some q → b.hg.ownBlock = some q ∨ W.heap.size ≤ q := by
    intro q hq
    rcases r4 with k | k
    · exact .inl (by rw [hbv, ← k]; exact hq)
    · rw [k] at hq
      simp only [Option.some.injEq] at hq
      exact .inr (by omega)
  refine ⟨H.bk.setG cc u (b.G ++ vs.map (fun r => (r.1, r.2, m))) ?_ hn ?_ ?_, ?_, ?_⟩
  · rw [List.length_append, hN, List.length_map, List.map_append, List.map_map]
    exact r1
  · intro r hr
    rcases List.mem_append.1 hr with k | k
    · exact cc.owns (H.bk.eg r k) (fun g hg e => apartT H.bk.og (H.bk.eg r k) (by decide) g e hg)
    · obtain ⟨x, hx, rfl⟩ := List.mem_map.1 k
      exact cc.owns (hme x hx).1 (fun g hg e => apartT H.bk.og (hme x hx).1 (by decide) g e hg)
  · intro r hr e
    rcases List.mem_append.1 hr with k | k
    · exact H.bk.nK BK (.inr (.inr (.inr (.inr (.inr ⟨r, k, e⟩))))) rfl
    · obtain ⟨x, hx, rfl⟩ := List.mem_map.1 k
      exact hmb x hx BK e (.inl rfl)
  · refine ((H.ch.mono (T := fun x => BB BK b x ∨ lv.ownBlock = some x) (fun x _ q => .inr q)).trans cc (fun x _ q => .inl (.inr (.inr (.inl q))))).trans ((Ch.refl (fun q => q = BK) W').set ⟨BK, 1, none⟩ u rfl) (fun x _ q => .inl (.inl q))
  · have hsz := H.ch.size
    rintro x (rfl | hx | hx | hx | hx | ⟨r, hr, hx⟩ | ⟨r, hr, hx⟩)
    · exact .inl (.inl rfl)
    · exact .inl (.inr (.inl hx))
    · rcases hn x hx with k | k
      · exact .inl (.inr (.inr (.inl k)))
      · exact .inr (.inr (by omega))
    · exact .inl (.inr (.inr (.inr (.inl hx))))
    · exact .inl (.inr (.inr (.inr (.inr (.inl hx)))))
    · exact .inl (.inr (.inr (.inr (.inr (.inr (.inl ⟨r, hr, hx⟩))))))
    · rcases List.mem_append.1 hr with k | k
      · exact .inl (.inr (.inr (.inr (.inr (.inr (.inr ⟨r, k, hx⟩))))))
      · obtain ⟨y, hy, rfl⟩ := List.mem_map.1 k
        exact .inr ((hme y hy).2 x hx)
/-- the marks' row -/
theorem res_marksG {W W' : World} {BK N : Nat} {b : BV} {ba : Option Addr} {bc : Nat} (h : BkM W BK b) (hbv : b.hn = .slice ba N bc) (hN : b.Mg.length = N) {u : Value} (ms : List Int)
    (r1 : W'.ownsRow 0 3 1 u (N + ms.length) (b.Mg.map (fun x : Int => Value.int .i64 x) ++ ms.map (fun x : Int => Value.int .i64 x))) (r2 : W.grownBy W' (Value.slice ba N bc).ownBlock) (r4 : u.ownBlock = (Value.slice ba N bc).ownBlock ∨ u.ownBlock = some W.heap.size) :
    BkM (W'.setCell ⟨BK, 3, none⟩ u) BK { b with hn := u, Mg := b.Mg ++ ms } ∧ Ch (BB BK b) W (W'.setCell ⟨BK, 3, none⟩ u) ∧ (∀ x, BB BK { b with hn := u, Mg := b.Mg ++ ms } x → BB BK b x ∨ W.heap.size ≤ x) := by
  have cc : Ch (fun q => b.hn.ownBlock = some q) W W' := (Ch.ofGrown r2).mono (fun x _ q => by rw [hbv]; exact q)
  have hn : ∀ q, u.ownBlock = some q → b.hn.ownBlock = some q ∨ W.heap.size ≤ q := by
    intro q hq
    rcases r4 with k | k
    · exact .inl (by rw [hbv, ← k]; exact hq)
    · rw [k] at hq
      simp only [Option.some.injEq] at hq
      exact .inr (by omega)
  refine ⟨h.setN cc u (b.Mg ++ ms) ?_ hn, ?_, ?_⟩
  · rw [List.length_append, hN, List.map_append]
    exact r1
  · exact (cc.mono (T := BB BK b) (fun x _ q => .inr (.inr (.inr (.inr (.inl q)))))).trans ((Ch.refl (fun q => q = BK) W').set ⟨BK, 3, none⟩ u rfl) (fun x _ q => .inl q)
  · rintro x (rfl | hx | hx | hx | hx | hx | hx)
    · exact .inl (.inl rfl)
    · exact .inl (.inr (.inl hx))
    · exact .inl (.inr (.inr (.inl hx)))
    · exact .inl (.inr (.inr (.inr (.inl hx))))
    · rcases hn x hx with k | k
      · exact .inl (.inr (.inr (.inr (.inr (.inl k)))))
      · exact .inr k
    · exact .inl (.inr (.inr (.inr (.inr (.inr (.inl hx))))))
    · exact .inl (.inr (.inr (.inr (.inr (.inr (.inr hx))))))
theorem row_fillG {w : World} {g n c k : Nat} {m : Int} {xs : List Value} (h : w.ownsRow 0 45 2 (.slice (some ⟨g, 0, none⟩) n c) n (rep k [.int .i64 m, .int .i64 m] ++ xs.drop (k * 2))) (hl : xs.length = n * 2) (hk : k < n) : ((w.setCell ⟨g, k * 2, none⟩ (.int .i64 m)).setCell ⟨g, k * 2 + 1, none⟩ (.int .i64 m)).ownsRow 0 45 2 (.slice (some ⟨g, 0, none⟩) n c) n (rep (k + 1) [.int .i64 m, .int .i64 m] ++ xs.drop ((k + 1) * 2)) := by
  have h1 := ((h.stored (k * 2) (.int .i64 m)).1.stored (k * 2 + 1) (.int .i64 m)).1
  have e : ((rep k [.int .i64 m, .int .i64 m] ++ xs.drop (k * 2)).set (k * 2) (.int .i64 m)).set (k * 2 + 1) (.int .i64 m) = rep (k + 1) [.int .i64 m, .int .i64 m] ++ xs.drop ((k + 1) * 2) := by
    have l0 : (rep k [Value.int .i64 m, .int .i64 m]).length = k * 2 := by rw [rep_len]; rfl
    rw [List.set_append_right _ _ (by omega), l0, Nat.sub_self, List.set_append_right _ _ (by omega), l0, show k * 2 + 1 - k * 2 = 1 by omega]
    rw [List.drop_eq_getElem_cons (show k * 2 < xs.length by omega), List.drop_eq_getElem_cons (show k * 2 + 1 < xs.length by omega), show (k + 1) * 2 = k * 2 + 1 + 1 by omega]
    rw [rep_add, List.append_assoc]
    rfl
  rw [e] at h1
  exact h1
end H11
end Go.Proofs.Ytcoaghcmbhogjaa
