/-
  A row of any cells, and what is appended to it again and again, the same cells each time: each row keeps what it holds, whether they lie in one block or not (as WFam, where the row itself need not bear the mark).
-/
import Derived.Test.YtnpipngiehohgaaPSplit
import Derived.Deep.DeepAppendRoom
import Derived.Maps.AppendAt
namespace Go.Proofs.Ytnpipngiehohgaa
open Go.RowKit
namespace Fg
def rep (n : Nat) (mk : List Value) : List Value := (List.replicate n mk).flatten
theorem rep_len (n : Nat) (mk : List Value) : (rep n mk).length = n * mk.length := by simp [rep]
theorem rep_zero (mk : List Value) : rep 0 mk = [] := rfl
theorem rep_add (n k : Nat) (mk : List Value) : rep (n + k) mk = rep n mk ++ rep k mk := by
  unfold rep
  rw [← List.replicate_append_replicate, List.flatten_append]
theorem rep_take (n N : Nat) (mk : List Value) (h : n ≤ N) : (rep N mk).take (n * mk.length) = rep n mk := by
  obtain ⟨k, rfl⟩ : ∃ k, N = n + k := ⟨N - n, by omega⟩
  rw [rep_add, List.take_append_of_le_length (by rw [rep_len]; exact Nat.le_refl _), List.take_of_length_le (by rw [rep_len]; exact Nat.le_refl _)]
theorem append_splitW {P : Program} {w : World} {ops : Array Oper} {rest : List Oper} {o : Oper} {a : Act} {Q : Exit → Act → World → Prop} (sz : Nat) (hsz : 0 < sz) (hgd : o.guard = none) (s x : Operand) (t : TypeId)
    (ho : o.op = .call { callee := .builtin .append, args := #[s, x], argTypes := #[t, t] })
    (base : Nat) (e : TypeId) (i : TypeInfo) (z : Value) (bytes : Nat) (ht : P.underlying t = some (.slice e)) (hi : P.info? e = some i) (hz : i.zero = some z)
    (hsize : i.size = sz) (hby : i.bytes = bytes) (hzs : z.cells.size = sz)
    (v : Value) (n : Nat) (xs : List Value) (hs : a.eval s = v) (hown : w.ownsRow base e sz v n xs)
    (ad : Addr) (m c : Nat) (news : List Value) (hx : a.eval x = .slice (some ad) m c) (hl : news.length = m * sz) (hnews : ∀ j u, news[j]? = some u → w.cell? (ad.add j) = some u) (h1 : ∀ u ∈ news, u.oneCell' = true)
    (h63 : n + m ≤ maxLen) (hbytes : (n + m) * bytes ≤ 140737488355328) (hbase : base ≤ w.heap.size)
    (h : ∀ v' w', w'.ownsRow base e sz v' (n + m) (xs ++ news) → ((w.grownBy w' none ∧ ∀ q, v'.ownBlock = some q → w.heap.size ≤ q) ∨ (∃ g cap, v = .slice (some ⟨g, 0, none⟩) n cap ∧ v' = .slice (some ⟨g, 0, none⟩) (n + m) cap ∧ w.grownBy w' (some g))) → wpList P ops Q rest (a.put o.dst v') w') : wpList P ops Q (o :: rest) a w := by
  rcases hown.2 with ⟨rfl, rfl⟩ | ⟨g, cap, cur, rfl, hbg, hg, hnc, hcm, hcs, htake⟩
  · have hx0 : xs = [] := List.eq_nil_of_length_eq_zero (by have := hown.1; simpa using this)
    subst hx0
    refine wpList_append_own_at w hgd s x t ho w.heap.size e i z sz bytes ht hi hz hsize hby hzs hsz (.slice none 0 0) 0 [] hs (World.ownsRow_nil _ _ _ _) ad m c news hx hl hnews h1 h63 hbytes (Nat.le_refl _) ?_
    intro v' w' r1 r2 _ _
    exact h v' w' (owns_mono r1 hbase) (.inl ⟨r2, fun q hq => (r1.lt q hq).1⟩)
  · by_cases hroom : n + m ≤ cap
    · refine wpList_append_own_spare w hgd s x t ho base e i sz ht hi hsize g n cap xs hs hown ad m c news hx hl hnews h1 hroom ?_
      intro w' r1 r2
      exact h _ w' r1 (.inr ⟨g, cap, rfl, rfl, r2⟩)
    · refine wpList_plain hgd fun K hK => ?_
      obtain ⟨v', w', hrun, r1, r2⟩ := run_append_arg_grows (P := P) w t o.type e i z sz bytes ht hi hz hsize hby hzs hsz ⟨g, 0, none⟩ n cap xs hown.1 (hown.cells rfl) ad m c news hl hnews (by omega) h63 hbytes
      unfold Oper.wp
      simp [execOp, ho, resolve, invoke, builtin, hs, hx, hrun, Result.andThen]
      exact hK _ _ (h v' w' (owns_mono r1 hbase) (.inl ⟨r2, fun q hq => (r1.lt q hq).1⟩))

/-- a row and what was appended to it: r.2 marks behind the row's own cells -/
structure Fy (w : World) (base : Nat) (e : TypeId) (xs mk : List Value) (lv : Value) (n T : Nat) (F : List (Value × Nat)) : Prop where
  own : w.ownsRow base e mk.length lv n xs
  mem : ∀ r, r ∈ F → w.ownsRow base e mk.length r.1 (n + r.2) (xs ++ rep r.2 mk) ∧ r.2 ≤ T
theorem Fy.ch {S : Nat → Prop} {w w' : World} {base : Nat} {e : TypeId} {xs mk : List Value} {lv : Value} {n T : Nat} {F : List (Value × Nat)} (h : Fy w base e xs mk lv n T F) (k : Ch S w w') (h1 : ∀ q, lv.ownBlock = some q → ¬ S q) (h2 : ∀ r, r ∈ F → ∀ q, r.1.ownBlock = some q → ¬ S q) : Fy w' base e xs mk lv n T F :=
  ⟨k.owns h.own h1, fun r hr => ⟨k.owns (h.mem r hr).1 (h2 r hr), (h.mem r hr).2⟩⟩
theorem Fy.below {w w' : World} {base : Nat} {e : TypeId} {xs mk : List Value} {lv : Value} {n T : Nat} {F : List (Value × Nat)} (h : Fy w base e xs mk lv n T F) (k : Below w.heap.size w w') : Fy w' base e xs mk lv n T F := h.ch (Ch.ofBelow (S := fun _ => False) k) (fun _ _ => id) (fun _ _ _ _ => id)
theorem owns_prefix {w w' : World} {base g cap N K : Nat} {e : TypeId} {ys : List Value} (hK : 0 < K) (h' : w'.ownsRow base e K (.slice (some ⟨g, 0, none⟩) N cap) N ys) {r : Value} {m : Nat} {zs : List Value} (hr : w.ownsRow base e K r m zs) (hz : ys.take (m * K) = zs) (hrg : r.ownBlock = some g) {capl n : Nat} {lx : List Value} (hl : w.ownsRow base e K (.slice (some ⟨g, 0, none⟩) n capl) n lx) (hcap : capl = cap) (hm : m ≤ N) : w'.ownsRow base e K r m zs := by
  rcases hr.2 with ⟨rfl, _⟩ | ⟨g2, c2, cur2, rfl, b2, hh2, n2, m2, s2, t2⟩
  · simp [Value.ownBlock] at hrg
  · simp only [Value.ownBlock, Option.some.injEq] at hrg
    subst hrg
    rcases hl.2 with ⟨q, _⟩ | ⟨g3, c3, cur3, e3, b3, hh3, n3, m3, s3, t3⟩
    · simp at q
    · simp only [Value.slice.injEq, Option.some.injEq, Addr.mk.injEq, and_true, true_and] at e3
      obtain ⟨rfl, rfl⟩ := e3
      rw [hh2] at hh3
      simp only [Option.some.injEq, Obj.cells.injEq, and_true] at hh3
      subst hh3
      have hc2 : c2 = capl := by
        have : c2 * K = capl * K := by rw [← s2, ← s3]
        exact Nat.eq_of_mul_eq_mul_right hK this
      rcases h'.2 with ⟨q, _⟩ | ⟨g4, c4, cur4, e4, b4, hh4, n4, m4, s4, t4⟩
      · simp at q
      · simp only [Value.slice.injEq, Option.some.injEq, Addr.mk.injEq, and_true, true_and] at e4
        obtain ⟨rfl, rfl⟩ := e4
        refine ⟨hr.1, .inr ⟨g2, c2, cur4, rfl, b2, hh4, n2, m2, by rw [s4, hc2, hcap], ?_⟩⟩
        rw [← hz, ← t4, List.take_take, Nat.min_eq_left (Nat.mul_le_mul_right _ hm)]
theorem cont_take {xs mk : List Value} {n k m : Nat} (hx : xs.length = n * mk.length) (hk : k ≤ m) : (xs ++ rep m mk).take ((n + k) * mk.length) = xs ++ rep k mk := by
  rw [List.take_append, hx, List.take_of_length_le (by rw [hx]; exact Nat.mul_le_mul_right _ (by omega)), Nat.add_mul, Nat.add_sub_cancel_left, rep_take k m mk hk]
theorem append_fy {P : Program} {w : World} {ops : Array Oper} {rest : List Oper} {o : Oper} {a : Act} {Q : Exit → Act → World → Prop} (hgd : o.guard = none) (s x : Operand) (t : TypeId)
    (ho : o.op = .call { callee := .builtin .append, args := #[s, x], argTypes := #[t, t] })
    (base : Nat) (e : TypeId) (i : TypeInfo) (z : Value) (bytes : Nat) (xs mk : List Value) (hmk : 0 < mk.length) (ht : P.underlying t = some (.slice e)) (hi : P.info? e = some i) (hz : i.zero = some z)
    (hsize : i.size = mk.length) (hby : i.bytes = bytes) (hzs : z.cells.size = mk.length)
    (lv : Value) (n T : Nat) (F : List (Value × Nat)) (hs : a.eval s = lv) (hf : Fy w base e xs mk lv n T F)
    (ad : Addr) (m c : Nat) (hx : a.eval x = .slice (some ad) m c) (hT : T ≤ m) (hnews : ∀ j u, (rep m mk)[j]? = some u → w.cell? (ad.add j) = some u) (h1 : ∀ u ∈ mk, u.oneCell' = true)
    (h63 : n + m ≤ maxLen) (hbytes : (n + m) * bytes ≤ 140737488355328) (hbase : base ≤ w.heap.size)
    (h : ∀ v' w', Hid (Fy w' base e xs mk lv n m (F ++ [(v', m)]) ∧ Ch (fun q => lv.ownBlock = some q) w w' ∧ (∀ q, v'.ownBlock = some q → lv.ownBlock = some q ∨ w.heap.size ≤ q) ∧ (∃ a2 c2, v' = .slice a2 (n + m) c2)) → wpList P ops Q rest (a.put o.dst v') w') : wpList P ops Q (o :: rest) a w := by
  refine append_splitW mk.length hmk hgd s x t ho base e i z bytes ht hi hz hsize hby hzs lv n xs hs hf.own ad m c (rep m mk) hx (rep_len m mk) hnews ?_ h63 hbytes hbase ?_
  · intro u hu
    unfold rep at hu
    rw [List.mem_flatten] at hu
    obtain ⟨l, hl, hul⟩ := hu
    rw [List.mem_replicate] at hl
    rw [hl.2] at hul
    exact h1 u hul
  · intro v' w' r1 r2
    have hxl : xs.length = n * mk.length := hf.own.1
    obtain ⟨a2, c2, hsh⟩ := owns_shape r1
    rcases r2 with ⟨g1, g2⟩ | ⟨g, cap, rfl, rfl, g1⟩
    · have k : Ch (fun _ => False) w w' := (Ch.ofGrown g1).mono (fun x _ q => by simp at q)
      refine h v' w' ⟨⟨k.owns hf.own (fun _ _ => id), ?_⟩, k.mono (fun _ _ q => q.elim), fun q hq => .inr (g2 q hq), ⟨a2, c2, hsh⟩⟩
      intro r hr
      rcases List.mem_append.1 hr with q | q
      · exact ⟨k.owns (hf.mem r q).1 (fun _ _ => id), by have := (hf.mem r q).2; omega⟩
      · rw [List.mem_singleton.1 q]; exact ⟨r1, Nat.le_refl _⟩
    · have k : Ch (fun q => q = g) w w' := (Ch.ofGrown g1).mono (fun x _ q => by simp at q; exact q.symm)
      refine h _ w' ⟨⟨?_, ?_⟩, k.mono (fun x _ q => by rw [q]; rfl), fun q hq => .inl hq, ⟨_, _, rfl⟩⟩
      · have hc := cont_take (k := 0) (m := m) hxl (Nat.zero_le _)
        rw [rep_zero, List.append_nil, Nat.add_zero] at hc
        exact owns_prefix hmk r1 hf.own hc rfl hf.own rfl (by omega)
      · intro r hr
        rcases List.mem_append.1 hr with q | q
        · have hm := hf.mem r q
          refine ⟨?_, by omega⟩
          by_cases e : r.1.ownBlock = some g
          · exact owns_prefix hmk r1 hm.1 (cont_take hxl (by omega)) e hf.own rfl (by omega)
          · exact k.owns hm.1 (fun x hx e2 => e (by rw [← e2]; exact hx))
        · rw [List.mem_singleton.1 q]; exact ⟨r1, Nat.le_refl _⟩
end Fg
end Go.Proofs.Ytnpipngiehohgaa
