/-
  FBk0: lemmas of the proof of FlowPlays, and walks through the functions that it calls.
-/
import Derived.Deep.DeepAppendRoom
import Derived.Deep.MidRow
import Derived.Maps.AppendAt
import Derived.Test.YtclpeepnngegaaaGreatDoorP00
import Derived.Test.YtclpeepnngegaaaGreatDoorP29
namespace Go.Proofs.YtclpeepnngegaaaGreatDoor
open Go.RowKit Go.Maps
def rep (n : Nat) (mk : List Value) : List Value := (List.replicate n mk).flatten
theorem rep_len (n : Nat) (mk : List Value) : (rep n mk).length = n * mk.length := by simp [rep]
theorem rep_add (n k : Nat) (mk : List Value) : rep (n + k) mk = rep n mk ++ rep k mk := by
 unfold rep
 rw [← List.replicate_append_replicate, List.flatten_append]
theorem rep_take (n N : Nat) (mk : List Value) (h : n ≤ N) : (rep N mk).take (n * mk.length) = rep n mk := by
 obtain ⟨k, rfl⟩ : ∃ k, N = n + k := ⟨N - n, by omega⟩
 rw [rep_add, List.take_append_of_le_length (by rw [rep_len]; exact Nat.le_refl _), List.take_of_length_le (by rw [rep_len]; exact Nat.le_refl _)]
theorem append_splitW {P : Program} {w : World} {ops : Array Oper} {rest : List Oper} {o : Oper} {a : Act} {Q : Exit → Act → World → Prop} (sz : Nat) (hsz : 0 < sz) (hgd : o.guard = none) (s x : Operand) (t : TypeId)
    (ho : o.op = .call { callee := .builtin .append, args := #[s, x], argTypes := #[t, t] })
    (base : Nat) (e : TypeId) (i : TypeInfo) (z : Value) (bytes : Nat) (ht : P.underlying t = some (.slice e)) (hi : P.info? e = some i) (hz : i.zero = some z)
    (hsize : i.size = sz) (hby : i.bytes = bytes) (hzs : z.cells.size = sz)
    (v : Value) (n : Nat) (xs : List Value) (hs : a.eval s = v) (hown : w.ownsRow base e sz v n xs)
    (ad : Addr) (m c : Nat) (news : List Value) (hx : a.eval x = .slice (some ad) m c) (hl : news.length = m * sz) (hnews : ∀ j u, news[j]? = some u → w.cell? (ad.add j) = some u) (h1 : ∀ u ∈ news, u.oneCell' = true)
    (h63 : n + m ≤ maxLen) (hbytes : (n + m) * bytes ≤ 140737488355328) (hbase : base ≤ w.heap.size)
    (h : ∀ v' w', w'.ownsRow base e sz v' (n + m) (xs ++ news) → ((w.grownBy w' none ∧ ∀ q, v'.ownBlock = some q → w.heap.size ≤ q) ∨ (∃ g cap, v = .slice (some ⟨g, 0, none⟩) n cap ∧ v' = .slice (some ⟨g, 0, none⟩) (n + m) cap ∧ w.grownBy w' (some g))) → wpList P ops Q rest (a.put o.dst v') w') : wpList P ops Q (o :: rest) a w := by
  rcases hown.2 with ⟨rfl, rfl⟩ | ⟨g, cap, cur, rfl, hbg, hg, hnc, hcm, hcs, htake⟩
  · have hx0 : xs = [] := List.eq_nil_of_length_eq_zero (by have := hown.1; simpa using this)
    subst hx0
    refine wpList_append_own_at w hgd s x t ho w.heap.size e i z sz bytes ht hi hz hsize hby hzs hsz (.slice none 0 0) 0 [] hs (World.ownsRow_nil _ _ _ _) ad m c news hx hl hnews h1 h63 hbytes (Nat.le_refl _) ?_
    intro v' w' r1 r2 _ _
    exact h v' w' (owns_mono r1 hbase) (.inl ⟨r2, fun q hq => (r1.lt q hq).1⟩)
  · by_cases hroom : n + m ≤ cap
    · refine wpList_append_own_spare w hgd s x t ho base e i sz ht hi hsize g n cap xs hs hown ad m c news hx hl hnews h1 hroom ?_
      intro w' r1 r2
      exact h _ w' r1 (.inr ⟨g, cap, rfl, rfl, r2⟩)
    · refine wpList_plain hgd fun K hK => ?_
      obtain ⟨v', w', hrun, r1, r2⟩ := run_append_arg_grows (P := P) w t o.type e i z sz bytes ht hi hz hsize hby hzs hsz ⟨g, 0, none⟩ n cap xs hown.1 (hown.cells rfl) ad m c news hl hnews (by omega) h63 hbytes
      unfold Oper.wp
      simp [execOp, ho, resolve, invoke, builtin, hs, hx, hrun, Result.andThen]
      exact hK _ _ (h v' w' (owns_mono r1 hbase) (.inl ⟨r2, fun q hq => (r1.lt q hq).1⟩))
structure Fy (w : World) (base : Nat) (e : TypeId) (mk : List Value) (lv : Value) (n T : Nat) (F : List (Value × Nat)) : Prop where
  own : w.ownsRow base e mk.length lv n (rep n mk)
  mem : ∀ r, r ∈ F → w.ownsRow base e mk.length r.1 r.2 (rep r.2 mk) ∧ r.2 ≤ n + T
theorem Fy.ch {S : Nat → Prop} {w w' : World} {base : Nat} {e : TypeId} {mk : List Value} {lv : Value} {n T : Nat} {F : List (Value × Nat)} (h : Fy w base e mk lv n T F) (k : Ch S w w') (h1 : ∀ q, lv.ownBlock = some q → ¬ S q) (h2 : ∀ r, r ∈ F → ∀ q, r.1.ownBlock = some q → ¬ S q) : Fy w' base e mk lv n T F :=
 ⟨k.owns h.own h1, fun r hr => ⟨k.owns (h.mem r hr).1 (h2 r hr), (h.mem r hr).2⟩⟩
theorem Fy.below {w w' : World} {base : Nat} {e : TypeId} {mk : List Value} {lv : Value} {n T : Nat} {F : List (Value × Nat)} (h : Fy w base e mk lv n T F) (k : Below w.heap.size w w') : Fy w' base e mk lv n T F := h.ch (Ch.ofBelow (S := fun _ => False) k) (fun _ _ => id) (fun _ _ _ _ => id)
theorem owns_prefix {w w' : World} {base g cap N : Nat} {e : TypeId} {mk : List Value} (hmk : 0 < mk.length) (h' : w'.ownsRow base e mk.length (.slice (some ⟨g, 0, none⟩) N cap) N (rep N mk)) {r : Value} {m : Nat} (hr : w.ownsRow base e mk.length r m (rep m mk)) (hrg : r.ownBlock = some g) {capl n : Nat} {lx : List Value} (hl : w.ownsRow base e mk.length (.slice (some ⟨g, 0, none⟩) n capl) n lx) (hcap : capl = cap) (hm : m ≤ N) : w'.ownsRow base e mk.length r m (rep m mk) := by
 rcases hr.2 with ⟨rfl, _⟩ | ⟨g2, c2, cur2, rfl, b2, hh2, n2, m2, s2, t2⟩
 · simp [Value.ownBlock] at hrg
 · simp only [Value.ownBlock, Option.some.injEq] at hrg
   subst hrg
   rcases hl.2 with ⟨q, _⟩ | ⟨g3, c3, cur3, e3, b3, hh3, n3, m3, s3, t3⟩
   · simp at q
   · simp only [Value.slice.injEq, Option.some.injEq, Addr.mk.injEq, and_true, true_and] at e3
     obtain ⟨rfl, rfl⟩ := e3
     rw [hh2] at hh3
     simp only [Option.some.injEq, Obj.cells.injEq, and_true] at hh3
     subst hh3
     have hc2 : c2 = capl := by
      have : c2 * mk.length = capl * mk.length := by rw [← s2, ← s3]
      exact Nat.eq_of_mul_eq_mul_right hmk this
     rcases h'.2 with ⟨q, _⟩ | ⟨g4, c4, cur4, e4, b4, hh4, n4, m4, s4, t4⟩
     · simp at q
     · simp only [Value.slice.injEq, Option.some.injEq, Addr.mk.injEq, and_true, true_and] at e4
       obtain ⟨rfl, rfl⟩ := e4
       refine ⟨hr.1, .inr ⟨g2, c2, cur4, rfl, b2, hh4, n2, m2, by rw [s4, hc2, hcap], ?_⟩⟩
       rw [← rep_take m N mk hm, ← t4, List.take_take, Nat.min_eq_left (Nat.mul_le_mul_right _ hm)]
theorem append_fy {P : Program} {w : World} {ops : Array Oper} {rest : List Oper} {o : Oper} {a : Act} {Q : Exit → Act → World → Prop} (hgd : o.guard = none) (s x : Operand) (t : TypeId)
    (ho : o.op = .call { callee := .builtin .append, args := #[s, x], argTypes := #[t, t] })
    (base : Nat) (e : TypeId) (i : TypeInfo) (z : Value) (bytes : Nat) (mk : List Value) (hmk : 0 < mk.length) (ht : P.underlying t = some (.slice e)) (hi : P.info? e = some i) (hz : i.zero = some z)
    (hsize : i.size = mk.length) (hby : i.bytes = bytes) (hzs : z.cells.size = mk.length)
    (lv : Value) (n T : Nat) (F : List (Value × Nat)) (hs : a.eval s = lv) (hf : Fy w base e mk lv n T F)
    (ad : Addr) (m c : Nat) (hx : a.eval x = .slice (some ad) m c) (hT : T ≤ m) (hnews : ∀ j u, (rep m mk)[j]? = some u → w.cell? (ad.add j) = some u) (h1 : ∀ u ∈ mk, u.oneCell' = true)
    (h63 : n + m ≤ maxLen) (hbytes : (n + m) * bytes ≤ 140737488355328) (hbase : base ≤ w.heap.size)
    (h : ∀ v' w', Hid (Fy w' base e mk lv n m (F ++ [(v', n + m)]) ∧ Ch (fun q => lv.ownBlock = some q) w w' ∧ (∀ q, v'.ownBlock = some q → lv.ownBlock = some q ∨ w.heap.size ≤ q) ∧ (∃ a2 c2, v' = .slice a2 (n + m) c2)) → wpList P ops Q rest (a.put o.dst v') w') : wpList P ops Q (o :: rest) a w := by
  refine append_splitW mk.length hmk hgd s x t ho base e i z bytes ht hi hz hsize hby hzs lv n (rep n mk) hs hf.own ad m c (rep m mk) hx (rep_len m mk) hnews ?_ h63 hbytes hbase ?_
  · intro u hu
    unfold rep at hu
    rw [List.mem_flatten] at hu
    obtain ⟨l, hl, hul⟩ := hu
    rw [List.mem_replicate] at hl
    rw [hl.2] at hul
    exact h1 u hul
  · intro v' w' r1 r2
    rw [← rep_add] at r1
    obtain ⟨a2, c2, hsh⟩ := owns_shape r1
    rcases r2 with ⟨g1, g2⟩ | ⟨g, cap, rfl, rfl, g1⟩
    · have k : Ch (fun _ => False) w w' := (Ch.ofGrown g1).mono (fun x _ q => by simp at q)
      refine h v' w' ⟨⟨k.owns hf.own (fun _ _ => id), ?_⟩, k.mono (fun _ _ q => q.elim), fun q hq => .inr (g2 q hq), ⟨a2, c2, hsh⟩⟩
      intro r hr
      rcases List.mem_append.1 hr with q | q
      · exact ⟨k.owns (hf.mem r q).1 (fun _ _ => id), by have := (hf.mem r q).2; omega⟩
      · rw [List.mem_singleton.1 q]; exact ⟨r1, Nat.le_refl _⟩
    · have k : Ch (fun q => q = g) w w' := (Ch.ofGrown g1).mono (fun x _ q => by simp at q; exact q.symm)
      refine h _ w' ⟨⟨?_, ?_⟩, k.mono (fun x _ q => by rw [q]; rfl), fun q hq => .inl hq, ⟨_, _, rfl⟩⟩
      · exact owns_prefix hmk r1 hf.own rfl hf.own rfl (by omega)
      · intro r hr
        rcases List.mem_append.1 hr with q | q
        · have hm := hf.mem r q
          refine ⟨?_, by omega⟩
          by_cases e : r.1.ownBlock = some g
          · exact owns_prefix hmk r1 hm.1 e hf.own rfl (by omega)
          · exact k.owns hm.1 (fun x hx e2 => e (by rw [← e2]; exact hx))
        · rw [List.mem_singleton.1 q]; exact ⟨r1, Nat.le_refl _⟩
theorem own_setCells {e : TypeId} {sz g n cap base : Nat} : ∀ (vs : List Value) (o : Nat) (w : World) (xs : List Value), w.ownsRow base e sz (.slice (some ⟨g, 0, none⟩) n cap) n xs → o + vs.length ≤ xs.length → (w.setCells g o vs).ownsRow base e sz (.slice (some ⟨g, 0, none⟩) n cap) n (xs.take o ++ (vs ++ xs.drop (o + vs.length)))
 | [], o, w, xs, h, _ => by simpa [World.setCells] using h
 | v :: vs, o, w, xs, h, hm => by
  simp only [List.length_cons] at hm
  have h1 := own_setCells vs (o + 1) _ _ (h.stored o v).1 (by rw [List.length_set]; omega)
  have e1 : (w.setCells g o (v :: vs)) = (w.setCell ⟨g, o, none⟩ v).setCells g (o + 1) vs := rfl
  rw [e1]
  have e2 : (xs.set o v).take (o + 1) ++ (vs ++ (xs.set o v).drop (o + 1 + vs.length)) = xs.take o ++ (v :: vs ++ xs.drop (o + (v :: vs).length)) := by
   rw [List.drop_set_of_lt (by omega), List.take_add_one, List.take_set_of_le (Nat.le_refl _), List.getElem?_set_self (by omega), show o + 1 + vs.length = o + (v :: vs).length from by simp; omega]
   simp
  rw [← e2]
  exact h1
theorem ch_setCells (w : World) (g : Nat) : ∀ (vs : List Value) (o : Nat), Ch (fun q => q = g) w (w.setCells g o vs) := by
 intro vs
 induction vs generalizing w with
 | nil => intro o; exact Ch.refl _ _
 | cons v vs ih =>
  intro o
  have e : w.setCells g o (v :: vs) = (w.setCell ⟨g, o, none⟩ v).setCells g (o + 1) vs := rfl
  rw [e]
  exact ((Ch.refl (fun q => q = g) w).set ⟨g, o, none⟩ v rfl).trans (ih _ (o + 1)) (fun _ _ h => h)
theorem FL.set {w : World} {base g n c : Nat} {L : List FN} (h : FL w base (.slice (some ⟨g, 0, none⟩) n c) L) (hn : L.length = n) {i : Nat} (hi : i < n) (f : FN) : FL (w.setCells g (i * 40) (flC f).toList) base (.slice (some ⟨g, 0, none⟩) n c) (L.take i ++ f :: L.drop (i + 1)) := by
 subst hn
 have h1 := own_setCells (flC f).toList (i * 40) w (fcs L) (show w.ownsRow base 72 40 _ L.length (fcs L) from h) (by rw [fcs_len]; show i * 40 + 40 ≤ _; omega)
 have l1 : (L.take i).length = i := by rw [List.length_take]; omega
 have l2 : (L.take (i + 1)).length = i + 1 := by rw [List.length_take]; omega
 have e1 : (fcs L).take (i * 40) = fcs (L.take i) := by
  rw [fcs_take_drop L i]
  exact List.take_left' (by rw [fcs_len, l1])
 have e2 : (fcs L).drop (i * 40 + (flC f).toList.length) = fcs (L.drop (i + 1)) := by
  rw [fcs_take_drop L (i + 1)]
  exact List.drop_left' (by rw [fcs_len, l2]; show (i + 1) * 40 = i * 40 + 40; omega)
 rw [e1, e2, ← fcs_cons, ← fcs_app] at h1
 have e3 : (L.take i ++ f :: L.drop (i + 1)).length = L.length := by
  rw [List.length_append, List.length_cons, List.length_drop, l1]
  omega
 show World.ownsRow _ base 72 40 _ (L.take i ++ f :: L.drop (i + 1)).length (fcs (L.take i ++ f :: L.drop (i + 1)))
 rw [e3]
 exact h1
theorem wpList_store_fr {ops : Array Oper} {rest : List Oper} {o : Oper} {a : Act} {w : World} {Q : Exit → Act → World → Prop} (x y : Operand) (ho : o.op = .store 72 x y) (hd : o.dst = none) (base g n c i : Nat) (L : List FN) (f : FN) (hx : a.eval x = .pointer (some ⟨g, i * 40, none⟩)) (hy : a.eval y = .agg (flC f)) (hb : FL w base (.slice (some ⟨g, 0, none⟩) n c) L) (hn : L.length = n) (hi : i < n)
    (hw : Region.wanted o (yielded ops a.tmps) = true) (hh : ∀ w', FL w' base (.slice (some ⟨g, 0, none⟩) n c) (L.take i ++ f :: L.drop (i + 1)) → Ch (fun q => q = g) w w' → wpList Tryz.prog ops Q rest a w') : wpList Tryz.prog ops Q (o :: rest) a w := by
  refine wpList_step fun K hK => ?_
  rw [if_pos hw]
  obtain ⟨f0, hf0⟩ : ∃ f0, L[i]? = some f0 := ⟨_, List.getElem?_eq_getElem (by omega)⟩
  have hr := hb.rng hf0
  have how : w.ownsRow base 72 40 _ L.length (fcs L) := hb
  refine wp_store_mid 72 x y ho g (i * 40) (flC f) hx hy (fun j hj => ⟨?_, ?_⟩) Tryz.size_flo (by simp [flC, Value.oneCell']) (hK _ _ ?_)
  · have hj' : j < (flC f0).toList.length := hj
    rw [hr j _ (List.getElem?_eq_getElem hj')]
    rfl
  · rw [hn] at how
    exact how.frozenAt (i * 40 + j)
  · rw [hd]
    exact hh _ (hb.set hn hi f) (ch_setCells w g _ _)
theorem rep_fcs (n : Nat) (f : FN) : rep n (flC f).toList = fcs (List.replicate n f) := by
 unfold rep
 induction n with
 | zero => rfl
 | succ n ih => rw [List.replicate_succ, List.replicate_succ, List.flatten_cons, fcs_cons, ih]
theorem run_bs2f (r s : FN) (w : World) : (Instr.buildSlice 34 2 #[(0, .agg (flC r)), (1, .agg (flC s))]).run Tryz.prog w = .ok (.slice (some ⟨w.heap.size, 0, none⟩) 2 2) (w.alloc (.cells ((flC r).toList ++ (flC s).toList).toArray 72)) := by kernel_rfl
theorem run_bs3f (r s t : FN) (w : World) : (Instr.buildSlice 34 3 #[(0, .agg (flC r)), (1, .agg (flC s)), (2, .agg (flC t))]).run Tryz.prog w = .ok (.slice (some ⟨w.heap.size, 0, none⟩) 3 3) (w.alloc (.cells ((flC r).toList ++ ((flC s).toList ++ (flC t).toList)).toArray 72)) := by kernel_rfl
theorem wpList_bs2f {ops : Array Oper} {rest : List Oper} {o : Oper} {a : Act} {w : World} {Q : Exit → Act → World → Prop} (x y : Operand) (ho : o.op = .buildSlice 34 2 #[(0, x), (1, y)]) (r s : FN) (hx : a.eval x = .agg (flC r)) (hy : a.eval y = .agg (flC s)) (hw : Region.wanted o (yielded ops a.tmps) = true)
    (h : wpList Tryz.prog ops Q rest (a.put o.dst (.slice (some ⟨w.heap.size, 0, none⟩) 2 2)) (w.alloc (.cells ((flC r).toList ++ (flC s).toList).toArray 72))) : wpList Tryz.prog ops Q (o :: rest) a w := by
  refine wpList_step fun K hK => ?_
  rw [if_pos hw]
  unfold Oper.wp execOp
  simp only [ho, Sem.run_bind, List.map_toArray, List.map_cons, List.map_nil, hx, hy, run_bs2f r s w, Result.andThen_ok]
  exact hK _ _ h
theorem wpList_bs3f {ops : Array Oper} {rest : List Oper} {o : Oper} {a : Act} {w : World} {Q : Exit → Act → World → Prop} (x y z : Operand) (ho : o.op = .buildSlice 34 3 #[(0, x), (1, y), (2, z)]) (r s t : FN) (hx : a.eval x = .agg (flC r)) (hy : a.eval y = .agg (flC s)) (hz : a.eval z = .agg (flC t)) (hw : Region.wanted o (yielded ops a.tmps) = true)
    (h : wpList Tryz.prog ops Q rest (a.put o.dst (.slice (some ⟨w.heap.size, 0, none⟩) 3 3)) (w.alloc (.cells ((flC r).toList ++ ((flC s).toList ++ (flC t).toList)).toArray 72))) : wpList Tryz.prog ops Q (o :: rest) a w := by
  refine wpList_step fun K hK => ?_
  rw [if_pos hw]
  unfold Oper.wp execOp
  simp only [ho, Sem.run_bind, List.map_toArray, List.map_cons, List.map_nil, hx, hy, hz, run_bs3f r s t w, Result.andThen_ok]
  exact hK _ _ h
end Go.Proofs.YtclpeepnngegaaaGreatDoor
