/-
  Lists of structs in rows of one's own, for any struct: K cells each, its cells a function of the value; read, made, lengthened, written at a place, copied.
-/
import Derived.Test.YtclkcpdghpaboaaQSp
import Derived.Test.YtclkcpdghpaboaaMixH
import Derived.Test.YtclkcpdghpaboaaOpenG
import Derived.Deep.MidRow
import Derived.Laws.ResultCell
import Derived.Laws.CopyRow
import Derived.Laws.CopyOwn
import Derived.Laws.MakeOwn
import Derived.Deep.DeepCutAuto
import Derived.Deep.CutBlock
namespace Go.Proofs.Ytclkcpdghpaboaa
open Go.RowKit

theorem own_setCells {e : TypeId} {sz g n cap base : Nat} : ∀ (vs : List Value) (o : Nat) (w : World) (xs : List Value), w.ownsRow base e sz (.slice (some ⟨g, 0, none⟩) n cap) n xs → o + vs.length ≤ xs.length → (w.setCells g o vs).ownsRow base e sz (.slice (some ⟨g, 0, none⟩) n cap) n (xs.take o ++ (vs ++ xs.drop (o + vs.length)))
  | [], o, w, xs, h, _ => by simpa [World.setCells] using h
  | v :: vs, o, w, xs, h, hm => by
    simp only [List.length_cons] at hm
    have h1 := own_setCells vs (o + 1) _ _ (h.stored o v).1 (by rw [List.length_set]; omega)
    have e1 : (w.setCells g o (v :: vs)) = (w.setCell ⟨g, o, none⟩ v).setCells g (o + 1) vs := rfl
    rw [e1]
    have e2 : (xs.set o v).take (o + 1) ++ (vs ++ (xs.set o v).drop (o + 1 + vs.length)) = xs.take o ++ (v :: vs ++ xs.drop (o + (v :: vs).length)) := by
      rw [List.drop_set_of_lt (by omega), List.take_add_one, List.take_set_of_le (Nat.le_refl _), List.getElem?_set_self (by omega), show o + 1 + vs.length = o + (v :: vs).length from by simp; omega]
      simp
    rw [← e2]
    exact h1
theorem ch_setCells (w : World) (g : Nat) : ∀ (vs : List Value) (o : Nat), Ch (fun q => q = g) w (w.setCells g o vs) := by
  intro vs
  induction vs generalizing w with
  | nil => intro o; exact Ch.refl _ _
  | cons v vs ih =>
    intro o
    have e : w.setCells g o (v :: vs) = (w.setCell ⟨g, o, none⟩ v).setCells g (o + 1) vs := rfl
    rw [e]
    exact ((Ch.refl (fun q => q = g) w).set ⟨g, o, none⟩ v rfl).trans (ih _ (o + 1)) (fun _ _ h => h)
theorem setRow_ch (w : World) (g : Nat) (cs : Array Value) : Ch (fun q => q = g) w (w.setRow g cs) := ⟨rfl, rfl, rfl, by simp [World.setRow], fun k _ hk => setRow_other w g k cs hk⟩

theorem take_splice {β : Type} (A C : List β) (o n : Nat) (hn : n ≤ A.length) (hf : o + C.length ≤ n) : (A.take o ++ (C ++ A.drop (o + C.length))).take n = (A.take n).take o ++ (C ++ (A.take n).drop (o + C.length)) := by
  obtain ⟨X, hX⟩ : ∃ X, X = A.take n := ⟨_, rfl⟩
  obtain ⟨Y, hY⟩ : ∃ Y, Y = A.drop n := ⟨_, rfl⟩
  have hA : A = X ++ Y := by rw [hX, hY, List.take_append_drop]
  have hXl : X.length = n := by rw [hX, List.length_take]; omega
  have h1 : A.take o = X.take o := by rw [hA, List.take_append_of_le_length (by omega)]
  have h2 : A.drop (o + C.length) = X.drop (o + C.length) ++ Y := by rw [hA, List.drop_append_of_le_length (by omega)]
  rw [← hX, h1, h2, ← List.append_assoc C, ← List.append_assoc]
  exact List.take_left' (by simp; omega)
section
variable {α : Type} (K : Nat) (cells : α → List Value)
theorem fmc_len (hcl : ∀ o, (cells o).length = K) (L : List α) : (L.flatMap cells).length = L.length * K := by
  induction L with
  | nil => simp
  | cons r L ih => rw [List.flatMap_cons, List.length_append, ih, hcl, List.length_cons, Nat.succ_mul, Nat.add_comm]
theorem fmc_get (hcl : ∀ o, (cells o).length = K) (L : List α) (i : Nat) (r : α) (h : L[i]? = some r) (j : Nat) (hj : j < K) : (L.flatMap cells)[i * K + j]? = (cells r)[j]? := by
  induction L generalizing i with
  | nil => simp at h
  | cons s L ih =>
    rw [List.flatMap_cons]
    cases i with
    | zero =>
      simp only [List.getElem?_cons_zero, Option.some.injEq] at h
      subst h
      rw [Nat.zero_mul, Nat.zero_add, List.getElem?_append_left (by rw [hcl]; exact hj)]
    | succ i =>
      simp only [List.getElem?_cons_succ] at h
      rw [List.getElem?_append_right (by rw [hcl, Nat.succ_mul]; omega), hcl, show (i + 1) * K + j - K = i * K + j by rw [Nat.succ_mul]; omega]
      exact ih i h
theorem fmc_take (hcl : ∀ o, (cells o).length = K) (L : List α) (i : Nat) (h : i ≤ L.length) : (L.flatMap cells).take (i * K) = (L.take i).flatMap cells := by
  have e1 : (L.take i).length = i := by rw [List.length_take]; omega
  have l1 : ((L.take i).flatMap cells).length = i * K := by rw [fmc_len K cells hcl, e1]
  have e2 : L.flatMap cells = (L.take i).flatMap cells ++ (L.drop i).flatMap cells := by rw [← List.flatMap_append, List.take_append_drop]
  rw [e2, ← l1, List.take_left]
theorem fmc_drop (hcl : ∀ o, (cells o).length = K) (L : List α) (i : Nat) (h : i ≤ L.length) : (L.flatMap cells).drop (i * K) = (L.drop i).flatMap cells := by
  have e1 : (L.take i).length = i := by rw [List.length_take]; omega
  have l1 : ((L.take i).flatMap cells).length = i * K := by rw [fmc_len K cells hcl, e1]
  have e2 : L.flatMap cells = (L.take i).flatMap cells ++ (L.drop i).flatMap cells := by rw [← List.flatMap_append, List.take_append_drop]
  rw [e2, ← l1, List.drop_left]
/-- rs laid over L from the place i on -/
theorem fmc_put (hcl : ∀ o, (cells o).length = K) (L rs : List α) (i : Nat) (h : i + rs.length ≤ L.length) : (L.flatMap cells).take (i * K) ++ (rs.flatMap cells ++ (L.flatMap cells).drop (i * K + (rs.flatMap cells).length)) = (L.take i ++ (rs ++ L.drop (i + rs.length))).flatMap cells := by
  rw [fmc_take K cells hcl L i (by omega), fmc_len K cells hcl rs, ← Nat.add_mul, fmc_drop K cells hcl L _ h, List.flatMap_append, List.flatMap_append]
theorem set_put (L : List α) (i : Nat) (r : α) (h : i < L.length) : L.take i ++ ([r] ++ L.drop (i + [r].length)) = L.set i r := by
  rw [List.set_eq_take_append_cons_drop, if_pos h]; rfl
def GL (e : TypeId) (w : World) (base : Nat) (v : Value) (L : List α) : Prop := w.ownsRow base e K v L.length (L.flatMap cells)
variable {K cells}
section
variable {e : TypeId} {w : World} {base : Nat} {v : Value} {L : List α}
theorem GL.nil : GL K cells e w base (.slice none 0 0) [] := World.ownsRow_nil _ _ _ _
theorem GL.ch {S : Nat → Prop} {b : World} (h : GL K cells e w base v L) (k : Ch S w b) (hS : ∀ g, v.ownBlock = some g → ¬ S g) : GL K cells e b base v L := k.owns h hS
theorem GL.below {b : World} (h : GL K cells e w base v L) (k : Below w.heap.size w b) : GL K cells e b base v L := h.ch (Ch.ofBelow (S := fun _ => False) k) (fun _ _ => id)
theorem GL.form (h : GL K cells e w base v L) : ∃ va vc, v = .slice va L.length vc := by
  rcases h.2 with ⟨rfl, h0⟩ | ⟨g, cap, cur, rfl, _⟩
  · exact ⟨none, 0, by rw [h0]⟩
  · exact ⟨_, _, rfl⟩
theorem GL.kind (h : GL K cells e w base v L) : ∀ g, v.ownBlock = some g → base ≤ g ∧ g < w.heap.size ∧ ∃ c, w.heap[g]? = some (.cells c e (0, 0)) := by
  intro g hg
  rcases h.2 with ⟨rfl, _⟩ | ⟨g', cap, cur, rfl, hb, hh, _⟩
  · simp [Value.ownBlock] at hg
  · simp [Value.ownBlock] at hg; subst hg; exact ⟨hb, (Array.getElem?_eq_some_iff.1 hh).1, cur, hh⟩
theorem GL.mono {b' : Nat} (h : GL K cells e w base v L) (hb : b' ≤ base) : GL K cells e w b' v L := by
  refine ⟨h.1, ?_⟩
  rcases h.2 with h2 | ⟨g, cap, cur, rfl, hg, r⟩
  · exact .inl h2
  · exact .inr ⟨g, cap, cur, rfl, Nat.le_trans hb hg, r⟩
/-- the base is any number up to the block's -/
theorem GL.up {b' : Nat} (h : GL K cells e w base v L) (hb : ∀ g, v.ownBlock = some g → b' ≤ g) : GL K cells e w b' v L := by
  refine ⟨h.1, ?_⟩
  rcases h.2 with h2 | ⟨g, cap, cur, rfl, hg, r⟩
  · exact .inl h2
  · exact .inr ⟨g, cap, cur, rfl, hb g rfl, r⟩
theorem GL.at (h : GL K cells e w base v L) (hcl : ∀ o, (cells o).length = K) (i : Nat) (r : α) (hr : L[i]? = some r) : ∃ g cap, v = .slice (some ⟨g, 0, none⟩) L.length cap ∧ base ≤ g ∧ g < w.heap.size ∧ w.rangeAt g (i * K) (cells r) := by
  have hi := (List.getElem?_eq_some_iff.1 hr).1
  rcases h.2 with ⟨rfl, h0⟩ | ⟨g, cap, cur, rfl, hb, hg, hnc, hcm, hcs, ht⟩
  · omega
  · refine ⟨g, cap, rfl, hb, (Array.getElem?_eq_some_iff.1 hg).1, fun j u hj => ?_⟩
    have hj' : j < K := by have := (List.getElem?_eq_some_iff.1 hj).1; rwa [hcl] at this
    have hc := h.cells rfl (i * K + j) u (by rw [fmc_get K cells hcl L i r hr j hj']; exact hj)
    rwa [Addr.add_lit, Nat.zero_add] at hc
theorem GL.range {g n cap : Nat} (h : GL K cells e w base (.slice (some ⟨g, 0, none⟩) n cap) L) (hcl : ∀ o, (cells o).length = K) (i : Nat) (r : α) (hr : L[i]? = some r) : w.rangeAt g (i * K) (cells r) := by
  obtain ⟨g', cap', hv, _, _, hh⟩ := h.at hcl i r hr
  simp only [Value.slice.injEq, Option.some.injEq, Addr.mk.injEq, and_true] at hv
  rw [hv.1]
  exact hh
theorem GL.len {a : Option Addr} {n cap : Nat} (h : GL K cells e w base (.slice a n cap) L) : n = L.length := by
  obtain ⟨va, vc, hv⟩ := h.form
  simp only [Value.slice.injEq] at hv
  exact hv.2.1
theorem GL.capm {a : Option Addr} {n cap : Nat} (h : GL K cells e w base (.slice a n cap) L) : L.length ≤ cap ∧ cap ≤ maxLen := by
  rcases h.2 with ⟨hv, h0⟩ | ⟨g, cap', cur, hv, hb, hg, hnc, hcm, _⟩
  · simp only [Value.slice.injEq] at hv
    rw [h0, hv.2.2]
    exact ⟨Nat.le_refl _, Nat.zero_le _⟩
  · simp only [Value.slice.injEq] at hv
    rw [hv.2.2]
    exact ⟨hnc, hcm⟩
theorem GL.frozen {g n cap : Nat} (h : GL K cells e w base (.slice (some ⟨g, 0, none⟩) n cap) L) (j : Nat) : w.frozen? ⟨g, j, none⟩ = false := by
  have hn := h.len
  subst hn
  exact World.ownsRow.frozenAt h j
/-- a list of one's own, read as one that is handed in -/
theorem GL.listG {ok : α → Prop} (h : GL K cells e w base v L) (hcl : ∀ o, (cells o).length = K) (hok : ∀ o ∈ L, ok o) : ∃ va vc, v = .slice va L.length vc ∧ ListG K cells ok w va L := by
  rcases h.2 with ⟨rfl, h0⟩ | ⟨g, cap, cur, rfl, hb, hg, hnc, hcm, hcs, ht⟩
  · have : L = [] := List.eq_nil_of_length_eq_zero h0
    exact ⟨none, 0, by rw [h0], .inl this⟩
  · refine ⟨some ⟨g, 0, none⟩, cap, rfl, .inr ⟨g, 0, rfl, (Array.getElem?_eq_some_iff.1 hg).1, fun i o ho => ⟨hok o (List.mem_of_getElem? ho), fun j hj => ?_⟩⟩⟩
    have hj' : j < (cells o).length := by rw [hcl]; exact hj
    have hc := h.cells rfl (i * K + j) ((cells o)[j]) (by rw [fmc_get K cells hcl L i o ho j hj]; exact List.getElem?_eq_getElem hj')
    rw [Addr.add_lit, Nat.zero_add] at hc
    rw [Nat.zero_add, hc, List.getElem?_eq_getElem hj']
end
/-- the premises of an element's type -/
def Info (e : TypeId) (K : Nat) : Prop := ∃ i z, Try.prog.info? e = some i ∧ i.zero = some z ∧ i.size = K ∧ z.cells.size = K ∧ i.bytes ≤ 1000
theorem info_of {e : TypeId} {K : Nat} (h : (Try.prog.info? e).any (fun i => i.zero.any (fun z => i.size == K && z.cells.size == K && decide (i.bytes ≤ 1000))) = true) : Info e K := by
  cases hi : Try.prog.info? e with
  | none => rw [hi] at h; simp at h
  | some i =>
    rw [hi] at h
    cases hz : i.zero with
    | none => rw [Option.any_some, hz] at h; simp at h
    | some z =>
      rw [Option.any_some, hz, Option.any_some] at h
      simp only [Bool.and_eq_true, beq_iff_eq, decide_eq_true_eq] at h
      exact ⟨i, z, hi, hz, h.1.1, h.1.2, h.2⟩
theorem Info.size {e : TypeId} {K : Nat} (h : Info e K) : (Try.prog.info? e).map (·.size) = some K := by
  obtain ⟨i, z, hi, _, hs, _⟩ := h
  rw [hi, Option.map_some, hs]
/-- append of a list that was handed in -/
theorem wpList_appG {ops : Array Oper} {rest : List Oper} {o : Oper} {a : Act} {w : World} {Q : Exit → Act → World → Prop} (hcl : ∀ o, (cells o).length = K) (h1c : ∀ o, ∀ u ∈ cells o, u.oneCell' = true) (hK : 0 < K) (hgd : o.guard = none) (s x : Operand) (t e : TypeId) (ho : o.op = .call { callee := .builtin .append, args := #[s, x], argTypes := #[t, t] })
    (ht : Try.prog.underlying t = some (.slice e)) (hinfo : Info e K)
    (base : Nat) (v : Value) (L : List α) (hs : a.eval s = v) (hown : GL K cells e w base v L) (ok : α → Prop) (la : Option Addr) (n lc : Nat) (rs : List α) (hx : a.eval x = .slice la n lc) (hn : rs.length = n) (hG : ListG K cells ok w la rs) (hL : L.length ≤ 2000000) (hR : rs.length ≤ 2000000) (hbase : base ≤ w.heap.size)
    (h : ∀ v' w', GL K cells e w' base v' (L ++ rs) → w.grownBy w' v.ownBlock → (v'.ownBlock = v.ownBlock ∨ v'.ownBlock = some w.heap.size) → wpList Try.prog ops Q rest (a.put o.dst v') w') : wpList Try.prog ops Q (o :: rest) a w := by
  subst hn
  obtain ⟨i, z, hi, hz0, hz1, hz2, hz3⟩ := hinfo
  cases la with
  | none =>
    have hr0 : rs = [] := by
      rcases hG with h0 | ⟨b, off, hb, _⟩
      · exact h0
      · cases hb
    subst hr0
    refine wpList_plain hgd fun Kk hKk => ?_
    have hrun := run_append_nil (P := Try.prog) (w := w) base t o.type e i K ht hi v L.length lc (L.flatMap cells) hown
    unfold Oper.wp
    simp only [List.length_nil] at hx
    simp [execOp, ho, resolve, invoke, builtin, hs, hx, hrun, Result.andThen]
    exact hKk _ _ (h v w (by simpa using hown) ⟨rfl, rfl, rfl, Nat.le_refl _, fun _ _ _ => rfl⟩ (.inl rfl))
  | some ad =>
    refine wpList_append_own_at w hgd s x t ho base e i z K i.bytes ht hi hz0 hz1 rfl hz2 hK v L.length (L.flatMap cells) hs hown ad rs.length lc (rs.flatMap cells) hx (fmc_len K cells hcl rs) ?_ ?_ (by unfold maxLen; omega) ?_ hbase ?_
    · intro j u hj
      rcases hG with h0 | ⟨b, off, hb, hlt, hc⟩
      · subst h0; simp at hj
      · cases hb
        have hjl := (List.getElem?_eq_some_iff.1 hj).1
        rw [fmc_len K cells hcl] at hjl
        have hq : j / K < rs.length := (Nat.div_lt_iff_lt_mul hK).2 hjl
        have hm : j % K < K := Nat.mod_lt _ hK
        have hoq : rs[j / K]? = some rs[j / K] := List.getElem?_eq_getElem hq
        have e1 : j / K * K + j % K = j := by rw [Nat.mul_comm]; exact Nat.div_add_mod j K
        have e2 := fmc_get K cells hcl rs (j / K) _ hoq (j % K) hm
        rw [e1, hj] at e2
        have e3 := (hc (j / K) _ hoq).2 (j % K) hm
        rw [Nat.add_assoc, e1] at e3
        rw [Addr.add_lit, e3, ← e2]
    · intro u hu
      obtain ⟨o', _, hu'⟩ := List.mem_flatMap.1 hu
      exact h1c o' u hu'
    · calc (L.length + rs.length) * i.bytes ≤ 4000000 * 1000 := Nat.mul_le_mul (by omega) hz3
        _ ≤ _ := by decide
    · intro v' w' q1 q2 _ q4
      refine h v' w' ?_ q2 q4
      show w'.ownsRow base e K v' (L ++ rs).length ((L ++ rs).flatMap cells)
      rw [List.flatMap_append, List.length_append]
      exact q1
/-- append of one that lies in a row of its own -/
theorem wpList_app1G {ops : Array Oper} {rest : List Oper} {o : Oper} {a : Act} {w : World} {Q : Exit → Act → World → Prop} (hcl : ∀ o, (cells o).length = K) (h1c : ∀ o, ∀ u ∈ cells o, u.oneCell' = true) (hK : 0 < K) (hgd : o.guard = none) (s x : Operand) (t e : TypeId) (ho : o.op = .call { callee := .builtin .append, args := #[s, x], argTypes := #[t, t] })
    (ht : Try.prog.underlying t = some (.slice e)) (hinfo : Info e K)
    (base : Nat) (v : Value) (L : List α) (hs : a.eval s = v) (hown : GL K cells e w base v L) (B : Nat) (lc : Nat) (r : α) (hx : a.eval x = .slice (some ⟨B, 0, none⟩) 1 lc) (hB : B < w.heap.size) (hr : w.rangeAt B 0 (cells r)) (hL : L.length ≤ 2000000) (hbase : base ≤ w.heap.size)
    (h : ∀ v' w', GL K cells e w' base v' (L ++ [r]) → w.grownBy w' v.ownBlock → (v'.ownBlock = v.ownBlock ∨ v'.ownBlock = some w.heap.size) → wpList Try.prog ops Q rest (a.put o.dst v') w') : wpList Try.prog ops Q (o :: rest) a w := by
  refine wpList_appG hcl h1c hK hgd s x t e ho ht hinfo base v L hs hown (fun _ => True) (some ⟨B, 0, none⟩) 1 lc [r] hx rfl (.inr ⟨B, 0, rfl, hB, fun i o' ho' => ⟨trivial, fun j hj => ?_⟩⟩) hL (by simp) hbase h
  have hi : i = 0 := by have := (List.getElem?_eq_some_iff.1 ho').1; simp at this; exact this
  subst hi
  simp only [List.getElem?_cons_zero, Option.some.injEq] at ho'
  subst ho'
  have hj' : j < (cells r).length := by rw [hcl]; exact hj
  have := hr j _ (List.getElem?_eq_getElem hj')
  rw [Nat.zero_mul, Nat.zero_add, List.getElem?_eq_getElem hj']
  rwa [Nat.zero_add] at this
theorem GL.there {e : TypeId} {w : World} {base g n cap : Nat} {L : List α} (h : GL K cells e w base (.slice (some ⟨g, 0, none⟩) n cap) L) (i m : Nat) (hi : i < n) (hm : m ≤ K) : w.there g (i * K) m := fun j hj => by
  have hn := h.len
  subst hn
  rcases h.2 with ⟨e, _⟩ | ⟨g', cap', cur, e, hb, hg, hnc, hcm, hcs, htk⟩
  · cases e
  · simp only [Value.slice.injEq, Option.some.injEq, Addr.mk.injEq, and_true, true_and] at e
    obtain ⟨rfl, rfl⟩ := e
    refine ⟨?_, by simp [World.frozen?, hg]⟩
    simp only [World.cell?, hg]
    have h1 : i * K + j < cur.size := by
      rw [hcs]
      calc i * K + j < i * K + K := by omega
        _ = (i + 1) * K := by rw [Nat.succ_mul]
        _ ≤ cap * K := Nat.mul_le_mul_right K (by omega)
    rw [Array.getElem?_eq_getElem h1]
    rfl
/-- one is written at a place -/
theorem wpList_setG {ops : Array Oper} {rest : List Oper} {o : Oper} {a : Act} {w : World} {Q : Exit → Act → World → Prop} (hcl : ∀ o, (cells o).length = K) (h1c : ∀ o, ∀ u ∈ cells o, u.oneCell' = true) (e : TypeId) (hinfo : Info e K) (x y : Operand) (ho : o.op = .store e x y) (hd : o.dst = none) (base g n cap : Nat) (L : List α) (i off : Nat) (r : α) (hx : a.eval x = .pointer (some ⟨g, off, none⟩)) (hoff : off = i * K) (hy : a.eval y = .agg (cells r).toArray) (h : GL K cells e w base (.slice (some ⟨g, 0, none⟩) n cap) L) (hl : i < n)
    (hw : Region.wanted o (yielded ops a.tmps) = true) (hh : ∀ w', GL K cells e w' base (.slice (some ⟨g, 0, none⟩) n cap) (L.set i r) → Ch (fun q => q = g) w w' → wpList Try.prog ops Q rest a w') : wpList Try.prog ops Q (o :: rest) a w := by
  have hn := h.len
  subst hoff
  have ht : w.there g (i * K) (cells r).toArray.size := h.there i _ hl (by simp [hcl])
  refine wpList_step fun K' hK => ?_
  rw [if_pos hw]
  refine wp_store_mid e x y ho g (i * K) (cells r).toArray hx hy ht (by rw [hinfo.size]; simp [hcl]) (by simpa using h1c r) (hK _ _ ?_)
  rw [hd]
  have h1 : w.ownsRow base e K (.slice (some ⟨g, 0, none⟩) n cap) n (L.flatMap cells) := by have h0 := h; unfold GL at h0; rw [← hn] at h0; exact h0
  have h2 := own_setCells (cells r) (i * K) w (L.flatMap cells) h1 (by
    rw [hcl, fmc_len K cells hcl]
    calc i * K + K = (i + 1) * K := by rw [Nat.succ_mul]
      _ ≤ L.length * K := Nat.mul_le_mul_right K (by omega))
  have e2 := fmc_put K cells hcl L [r] i (by simp; omega)
  rw [set_put L i r (by omega), List.flatMap_cons, List.flatMap_nil, List.append_nil] at e2
  rw [e2] at h2
  refine hh _ ?_ (ch_setCells w g _ _)
  show World.ownsRow _ base e K _ (L.set i r).length ((L.set i r).flatMap cells)
  rw [List.length_set, ← hn]
  exact h2
/-- 'make' of n -/
theorem wpList_makeG {ops : Array Oper} {rest : List Oper} {o : Oper} {a : Act} {w : World} {Q : Exit → Act → World → Prop} (hcl : ∀ o, (cells o).length = K) (hK : 0 < K) (zero : α) (hg : o.guard = none) (l c : Operand) (t e : TypeId) (ho : o.op = .makeSlice t l c) (ht : Try.prog.underlying t = some (.slice e)) (hinfo : ∃ i, Try.prog.info? e = some i ∧ i.zero.map Value.cells = some (cells zero).toArray ∧ i.size = K ∧ i.bytes ≤ 1000) (base : Nat) (L1 C1 : Int) (n : Nat) (hl : a.eval l = .int .i64 L1) (hc : a.eval c = .int .i64 C1) (hL1 : L1 = (n : Int)) (hC1 : C1 = (n : Int)) (hn : n ≤ 2000000) (hb : base ≤ w.heap.size)
    (h : ∀ w', GL K cells e w' base (.slice (some ⟨w.heap.size, 0, none⟩) n n) (List.replicate n zero) → Below w.heap.size w w' → wpList Try.prog ops Q rest (a.put o.dst (.slice (some ⟨w.heap.size, 0, none⟩) n n)) w') : wpList Try.prog ops Q (o :: rest) a w := by
  obtain ⟨i, hi, hz, hs, hby⟩ := hinfo
  cases hz0 : i.zero with
  | none => rw [hz0] at hz; cases hz
  | some z =>
    rw [hz0, Option.map_some, Option.some.injEq] at hz
    refine wpList_make_full w hg l c t ho base e i z K ht hi hz0 hs .i64 .i64 L1 C1 n hl hc hL1 hC1 (Nat.le_trans (Nat.mul_le_mul hby hn) (by decide)) (by unfold maxLen; omega) hb ?_
    intro w' h1 h2
    refine h w' ?_ ⟨h2.os, h2.tape, h2.output, h2.size, fun k hk => h2.block k hk (by simp)⟩
    have e1 : (madeCells z.cells (n * K)).toList = (List.replicate n zero).flatMap cells := by
      rw [hz]
      apply List.ext_getElem?
      intro j
      by_cases hj : j < n * K
      · have hq : j / K < n := (Nat.div_lt_iff_lt_mul hK).2 hj
        have hm : j % K < K := Nat.mod_lt _ hK
        have e2 := fmc_get K cells hcl (List.replicate n zero) (j / K) zero (by simp [hq]) (j % K) hm
        rw [show j / K * K + j % K = j by rw [Nat.mul_comm]; exact Nat.div_add_mod j K] at e2
        rw [e2]
        have hm' : j % K < (cells zero).length := by rw [hcl]; exact hm
        simp [madeCells, hj, hcl, List.getElem?_eq_getElem hm']
      · rw [List.getElem?_eq_none (by simp [size_madeCells]; omega), List.getElem?_eq_none (by rw [fmc_len K cells hcl]; simp; omega)]
    show w'.ownsRow base e K _ (List.replicate n zero).length _
    rw [List.length_replicate, ← e1]
    exact h1
/-- 'copy' -/
theorem run_copyK {P : Program} (w : World) (dT sT ty elem : TypeId) (k : Nat) (g o dLen dCap : Nat) (a : Addr) (sLen sCap : Nat) (cur : Array Value) (t : TypeId) (cs : List Value) (m : Nat)
    (hu : P.underlying dT = some (.slice elem)) (hs : (P.info? elem).map (·.size) = some k)
    (hg : w.heap[g]? = some (.cells cur t (0, 0))) (hn : m = Nat.min sLen dLen) (hm : cs.length = m * k)
    (hsrc : ∀ j v, cs[j]? = some v → w.cell? (a.add j) = some v) (hfit : o + cs.length ≤ cur.size) (h1 : ∀ v ∈ cs, v.oneCell' = true) :
    (Builtin.copy_ #[dT, sT] ty #[.slice (some ⟨g, o, none⟩) dLen dCap, .slice (some a) sLen sCap]).run P w =
      .ok (goInt m) (w.setRow g (cur.toList.take o ++ cs ++ cur.toList.drop (o + cs.length)).toArray) := by
  have hl := run_loadCells_list (P := P) w a cs hsrc
  have hst := run_storeCells_at P g o t cs 0 cur w hg (by simpa using hfit) h1
  rw [hm] at hl
  cases hq : P.info? elem with
  | none => simp [hq] at hs
  | some i =>
    have hi : i.size = k := by simpa [hq] using hs
    simp [Builtin.copy_, run_underlying hu, Builtin.lenOf, Builtin.firstCells, sizeOf, typeInfo, hq, hi, ← hn, hl, hst]
theorem run_copyK0 {P : Program} (w : World) (dT sT ty elem : TypeId) (d a : Option Addr) (dLen dCap sLen sCap : Nat) (hu : P.underlying dT = some (.slice elem)) (hs : ((P.info? elem).map (·.size)).isSome = true) (hn : Nat.min sLen dLen = 0) :
    (Builtin.copy_ #[dT, sT] ty #[.slice d dLen dCap, .slice a sLen sCap]).run P w = .ok (goInt 0) w := by
  cases hq : P.info? elem with
  | none => simp [hq] at hs
  | some i =>
    have hl : ∀ (x : Addr), (loadCells x 0).run P w = .ok #[] w := fun x => by simpa using run_loadCells_list (P := P) w x [] (by simp)
    cases d <;> cases a <;> simp [Builtin.copy_, run_underlying hu, Builtin.lenOf, Builtin.firstCells, sizeOf, typeInfo, hq, hn, storeCells, hl]
theorem wpList_copyG {ops : Array Oper} {rest : List Oper} {o : Oper} {a : Act} {w : World} {Q : Exit → Act → World → Prop} (hcl : ∀ o, (cells o).length = K) (h1c : ∀ o, ∀ u ∈ cells o, u.oneCell' = true) (hK : 0 < K) (hgd : o.guard = none) (d s : Operand) (t e : TypeId) (ho : o.op = .call { callee := .builtin .copy, args := #[d, s], argTypes := #[t, t] })
    (ht : Try.prog.underlying t = some (.slice e)) (hinfo : Info e K) (base g n cap : Nat) (L : List α) (da : Option Addr) (i dLen dCap : Nat) (hd : a.eval d = .slice da dLen dCap) (sa : Option Addr) (sLen sCap : Nat) (hs : a.eval s = .slice sa sLen sCap)
    (ok : α → Prop) (rs : List α) (hm : rs.length = Nat.min sLen dLen) (hda : 0 < rs.length → da = some ⟨g, i * K, none⟩) (hrs : ListG K cells ok w sa rs) (h : GL K cells e w base (.slice (some ⟨g, 0, none⟩) n cap) L) (hl : i + rs.length ≤ n)
    (hh : ∀ w', GL K cells e w' base (.slice (some ⟨g, 0, none⟩) n cap) (L.take i ++ (rs ++ L.drop (i + rs.length))) → Ch (fun q => q = g) w w' → wpList Try.prog ops Q rest (a.put o.dst (goInt rs.length)) w') : wpList Try.prog ops Q (o :: rest) a w := by
  have hn := h.len
  refine wpList_plain hgd fun K' hK' => ?_
  by_cases h0 : rs = []
  · subst h0
    have hrun := run_copyK0 (P := Try.prog) w t t o.type e da sa dLen dCap sLen sCap ht (by rw [hinfo.size]; rfl) (by simpa using hm.symm)
    unfold Oper.wp
    simp [execOp, ho, resolve, invoke, builtin, hd, hs, hrun, Result.andThen]
    refine hK' _ _ (hh w ?_ (Ch.refl _ _))
    simpa using h
  · have hp : 0 < rs.length := by cases rs with | nil => exact absurd rfl h0 | cons _ _ => simp
    have hdA := hda hp
    subst hdA
    rcases hrs with h1 | ⟨b, off, rfl, hlt, hc⟩
    · exact absurd h1 h0
    · rcases h.2 with ⟨e1, _⟩ | ⟨g', cap', cur, e1, hb, hg, hnc, hcm, hcs, htk⟩
      · cases e1
      · simp only [Value.slice.injEq, Option.some.injEq, Addr.mk.injEq, and_true] at e1
        obtain ⟨rfl, rfl, rfl⟩ := e1
        have hlen := fmc_len K cells hcl rs
        have hfit : i * K + (rs.flatMap cells).length ≤ L.length * K := by
          rw [hlen, ← Nat.add_mul]
          exact Nat.mul_le_mul_right K (by omega)
        have hcur : L.length * K ≤ cur.size := by rw [hcs]; exact Nat.mul_le_mul_right K hnc
        have hrun := run_copyK (P := Try.prog) w t t o.type e K g (i * K) dLen dCap ⟨b, off, none⟩ sLen sCap cur e (rs.flatMap cells) rs.length ht hinfo.size hg hm hlen (by
          intro j u hj
          have hjl := (List.getElem?_eq_some_iff.1 hj).1
          rw [hlen] at hjl
          have hq : j / K < rs.length := (Nat.div_lt_iff_lt_mul hK).2 hjl
          have hm : j % K < K := Nat.mod_lt _ hK
          have hoq : rs[j / K]? = some rs[j / K] := List.getElem?_eq_getElem hq
          have e1 : j / K * K + j % K = j := by rw [Nat.mul_comm]; exact Nat.div_add_mod j K
          have e2 := fmc_get K cells hcl rs (j / K) _ hoq (j % K) hm
          rw [e1, hj] at e2
          have e3 := (hc (j / K) _ hoq).2 (j % K) hm
          rw [Nat.add_assoc, e1] at e3
          rw [Addr.add_lit, e3, ← e2]) (by omega) (by
          intro u hu
          obtain ⟨o', _, hu'⟩ := List.mem_flatMap.1 hu
          exact h1c o' u hu')
        unfold Oper.wp
        simp only [List.append_assoc] at hrun
        obtain ⟨W, hW⟩ : ∃ W, W = w.setRow g (cur.toList.take (i * K) ++ (rs.flatMap cells ++ cur.toList.drop (i * K + (rs.flatMap cells).length))).toArray := ⟨_, rfl⟩
        rw [← hW] at hrun
        simp [execOp, ho, resolve, invoke, builtin, hd, hs, hrun, Result.andThen]
        rw [hW]
        refine hK' _ _ (hh _ ?_ (setRow_ch w g _))
        have hset := setRow_heap w g cur (cur.toList.take (i * K) ++ (rs.flatMap cells ++ cur.toList.drop (i * K + (rs.flatMap cells).length))).toArray e (0, 0) hg
        have hll : (L.take i ++ (rs ++ L.drop (i + rs.length))).length = L.length := by simp; omega
        refine ⟨by rw [fmc_len K cells hcl], .inr ⟨g, cap, _, by rw [hll], hb, hset, by rw [hll]; exact hnc, hcm, by rw [← hcs]; simp only [List.size_toArray, List.length_append, List.length_take, List.length_drop, Array.length_toList]; omega, ?_⟩⟩
        rw [hll, ← fmc_put K cells hcl L rs i (by omega)]
        rw [← htk]
        exact take_splice cur.toList (rs.flatMap cells) (i * K) (L.length * K) (by simpa using hcur) hfit
theorem zero_of {e : TypeId} {K : Nat} {cs : Array Value} (h : (Try.prog.info? e).map (fun i => (i.zero.map Value.cells, i.size, decide (i.bytes ≤ 1000))) = some (some cs, K, true)) : ∃ i, Try.prog.info? e = some i ∧ i.zero.map Value.cells = some cs ∧ i.size = K ∧ i.bytes ≤ 1000 := by
  cases hi : Try.prog.info? e with
  | none => rw [hi] at h; cases h
  | some i =>
    rw [hi, Option.map_some, Option.some.injEq, Prod.mk.injEq, Prod.mk.injEq] at h
    exact ⟨i, rfl, h.1, h.2.1, of_decide_eq_true h.2.2⟩
theorem GL.drop {e : TypeId} {w : World} {base g n cap : Nat} {L : List α} (h : GL K cells e w base (.slice (some ⟨g, 0, none⟩) n cap) L) (hcl : ∀ o, (cells o).length = K) (i m : Nat) : ListG K cells (fun _ => True) w (some ⟨g, i * K, none⟩) ((L.drop i).take m) := by
  refine .inr ⟨g, i * K, rfl, (h.kind g rfl).2.1, fun j o ho => ⟨trivial, fun k hk => ?_⟩⟩
  have h1 : (L.drop i)[j]? = some o := by
    rw [List.getElem?_take] at ho
    split at ho
    · exact ho
    · cases ho
  rw [List.getElem?_drop] at h1
  have hk' : k < (cells o).length := by rw [hcl]; exact hk
  have h2 := h.range hcl (i + j) o h1 k _ (List.getElem?_eq_getElem hk')
  rw [List.getElem?_eq_getElem hk', ← Nat.add_mul]
  exact h2
end
end Go.Proofs.Ytclkcpdghpaboaa
