/-
  Layer 18: the caller's book: a line of items, which may begin anywhere in its block; lengthened, shortened at its head.
-/
import Derived.Test.YtclkcpdghpaboaaQH0
namespace Go.Proofs.Ytclkcpdghpaboaa
open Go.RowKit Go.ChangeShapes Go.WideShapes

def biA (x : Int × Int) : Array Value := #[.int .i64 x.2, .int .i64 x.1]
def biL (x : Int × Int) : List Value := (biA x).toList
theorem biL_len (x : Int × Int) : (biL x).length = 2 := rfl
theorem biL_one (x : Int × Int) : ∀ u ∈ biL x, u.oneCell' = true := by simp [biL, biA, Value.oneCell']
theorem info_bi : Info 56 2 := info_of (by kernel_rfl)

/-- a line of the book -/
def Ln (N : Nat) (w : World) (v : Value) (M : List (Int × Int)) : Prop :=
  (v = .slice none 0 0 ∧ M = []) ∨ ∃ g off c cc, v = .slice (some ⟨g, off, none⟩) M.length c ∧ N ≤ g ∧ w.heap[g]? = some (.cells cc 56 (0, 0)) ∧ off + c * 2 ≤ cc.size ∧ M.length ≤ c ∧ c ≤ maxLen ∧ w.rangeAt g off (M.flatMap biL)
section
variable {N : Nat} {w w' : World} {v : Value} {M : List (Int × Int)}
theorem Ln.kind (h : Ln N w v M) {q : Nat} (hq : v.ownBlock = some q) : N ≤ q ∧ q < w.heap.size ∧ ∃ cc, w.heap[q]? = some (.cells cc 56 (0, 0)) := by
  rcases h with ⟨rfl, _⟩ | ⟨g, off, c, cc, rfl, hN, hg, _⟩
  · simp [Value.ownBlock] at hq
  · simp only [Value.ownBlock, Option.some.injEq] at hq
    subst hq
    exact ⟨hN, (Array.getElem?_eq_some_iff.1 hg).1, cc, hg⟩
theorem Ln.form (h : Ln N w v M) : ∃ a c, v = .slice a M.length c := by
  rcases h with ⟨rfl, rfl⟩ | ⟨g, off, c, cc, rfl, _⟩
  · exact ⟨_, _, rfl⟩
  · exact ⟨_, _, rfl⟩
theorem Ln.same (h : Ln N w v M) (k : ∀ q, v.ownBlock = some q → w'.heap[q]? = w.heap[q]?) : Ln N w' v M := by
  rcases h with h | ⟨g, off, c, cc, rfl, hN, hg, h1, h2, h3, h4⟩
  · exact .inl h
  · have hb := k g rfl
    exact .inr ⟨g, off, c, cc, rfl, hN, hb.trans hg, h1, h2, h3, fun j u hj => (World.cell?_of_block hb).trans (h4 j u hj)⟩
theorem Ln.ch {S : Nat → Prop} (h : Ln N w v M) (k : Ch S w w') (hS : ∀ q, v.ownBlock = some q → ¬ S q) : Ln N w' v M := h.same (fun q hq => k.block q (h.kind hq).2.1 (hS q hq))
theorem Ln.below (h : Ln N w v M) (k : Below w.heap.size w w') : Ln N w' v M := h.ch (Ch.ofBelow (S := fun _ => False) k) (fun _ _ => id)
theorem Ln.kp (h : Ln N w v M) (k : Kp w w') : Ln N w' v M := h.same (fun q hq => by
  obtain ⟨_, _, cc, hc⟩ := h.kind hq
  rw [hc]
  exact k.block _ _ _ hc (by decide) (by decide) (by decide))
/-- its head -/
theorem Ln.head {x : Int × Int} {M' : List (Int × Int)} (h : Ln N w v (x :: M')) : ∃ g off c, v = .slice (some ⟨g, off, none⟩) (M'.length + 1) c ∧ M'.length + 1 ≤ c ∧ w.cell? ⟨g, off, none⟩ = some (.int .i64 x.2) ∧ w.cell? ⟨g, off + 1, none⟩ = some (.int .i64 x.1) := by
  rcases h with ⟨_, h0⟩ | ⟨g, off, c, cc, rfl, hN, hg, h1, h2, h3, h4⟩
  · cases h0
  · exact ⟨g, off, c, rfl, h2, by simpa using h4 0 _ rfl, h4 1 _ rfl⟩
/-- the rest behind its head -/
theorem Ln.tail {x : Int × Int} {M' : List (Int × Int)} {g off n c : Nat} (h : Ln N w (.slice (some ⟨g, off, none⟩) n c) (x :: M')) : Ln N w (sliced (some ⟨g, off, none⟩) 1 n c 2) M' := by
  rcases h with ⟨h0, _⟩ | ⟨g', off', c', cc, hv, hN, hg, h1, h2, h3, h4⟩
  · cases h0
  · simp only [Value.slice.injEq, Option.some.injEq, Addr.mk.injEq, and_true, List.length_cons] at hv h2
    obtain ⟨⟨rfl, rfl⟩, rfl, rfl⟩ := hv
    unfold sliced
    by_cases hc : c = 1
    · have hM : M' = [] := List.eq_nil_of_length_eq_zero (by omega)
      subst hM hc
      exact .inr ⟨g, off, 0, cc, rfl, hN, hg, by omega, Nat.le_refl _, Nat.zero_le _, fun j u hj => by simp at hj⟩
    · rw [if_neg hc]
      refine .inr ⟨g, off + 2, c - 1, cc, ?_, hN, hg, by omega, by omega, by omega, fun j u hj => ?_⟩
      · simp [Addr.add_lit]
      · have := h4 (2 + j) u (by rw [List.flatMap_cons, List.getElem?_append_right (by rw [biL_len]; omega), biL_len]; simpa using hj)
        rwa [← Nat.add_assoc] at this
theorem sliced_own (g off n c : Nat) : (sliced (some ⟨g, off, none⟩) 1 n c 2).ownBlock = some g := by
  unfold sliced
  split
  · rfl
  · simp [Value.ownBlock, Addr.add_lit]
end
/-- append within the capacity, wherever the slice begins -/
theorem run_append_off {P : Program} (w : World) (t ty e : TypeId) (i : TypeInfo) (ht : P.underlying t = some (.slice e)) (hi : P.info? e = some i)
    (g off sLen sCap : Nat) (cur : Array Value) (hg : w.heap[g]? = some (.cells cur e (0, 0)))
    (a : Addr) (m c : Nat) (news : List Value) (hl : news.length = m * i.size) (hnews : ∀ j u, news[j]? = some u → w.cell? (a.add j) = some u) (h1 : ∀ u ∈ news, u.oneCell' = true)
    (hroom : sLen + m ≤ sCap) (hfit : off + sLen * i.size + news.length ≤ cur.size) :
    (Builtin.append_ #[t, t] ty #[.slice (some ⟨g, off, none⟩) sLen sCap, .slice (some a) m c]).run P w =
      .ok (.slice (some ⟨g, off, none⟩) (sLen + m) sCap) (w.setRow g (cur.toList.take (off + sLen * i.size) ++ news ++ cur.toList.drop (off + sLen * i.size + news.length)).toArray) := by
  have hf := run_firstCells_some (P := P) w i.size m a m c news hl hnews
  have hst := run_storeCells_at P g (off + sLen * i.size) e news 0 cur w hg (by simpa using hfit) h1
  simp only [Nat.add_zero] at hst
  simp [Builtin.append_, run_underlying ht, sizeOf, typeInfo, hi, Builtin.lenOf, hroom, hf, Addr.add_lit, hst]
/-- a new row is a line -/
theorem own_ln {N : Nat} {w : World} {v : Value} {M : List (Int × Int)} (h : w.ownsRow N 56 2 v M.length (M.flatMap biL)) : Ln N w v M := by
  rcases h.2 with ⟨rfl, h0⟩ | ⟨g, cap, cur, rfl, hb, hg, hnc, hcm, hcs, htk⟩
  · exact .inl ⟨rfl, List.eq_nil_of_length_eq_zero h0⟩
  · refine .inr ⟨g, 0, cap, cur, rfl, hb, hg, by omega, hnc, hcm, fun j u hj => ?_⟩
    have hc := h.cells rfl j u hj
    rwa [Addr.add_lit] at hc
theorem splice_get {β : Type} (A C : List β) (o : Nat) (ho : o + C.length ≤ A.length) (j : Nat) : (A.take o ++ C ++ A.drop (o + C.length))[j]? = if j < o then A[j]? else if j < o + C.length then C[j - o]? else A[j]? := by
  have hl : (A.take o).length = o := by rw [List.length_take]; omega
  split
  · rename_i h
    rw [List.append_assoc, List.getElem?_append_left (by omega), List.getElem?_take, if_pos h]
  · split
    · rename_i h1 h2
      rw [List.append_assoc, List.getElem?_append_right (by omega), hl, List.getElem?_append_left (by omega)]
    · rename_i h1 h2
      rw [List.getElem?_append_right (by simp; omega), List.getElem?_drop]
      congr 1
      simp
      omega
theorem wpList_appLn {ops : Array Oper} {rest : List Oper} {o : Oper} {a : Act} {w : World} {Q : Exit → Act → World → Prop} (hgd : o.guard = none) (s x : Operand) (ho : o.op = .call { callee := .builtin .append, args := #[s, x], argTypes := #[37, 37] })
    (N : Nat) (v : Value) (M : List (Int × Int)) (hs : a.eval s = v) (hown : Ln N w v M) (B : Nat) (lc : Nat) (r : Int × Int) (hx : a.eval x = .slice (some ⟨B, 0, none⟩) 1 lc) (hr : w.rangeAt B 0 (biL r)) (hL : M.length ≤ 2000000) (hbase : N ≤ w.heap.size)
    (h : ∀ v' w', Ln N w' v' (M ++ [r]) → Ch (fun q => v.ownBlock = some q) w w' → (∀ q, v'.ownBlock = some q → v.ownBlock = some q ∨ w.heap.size ≤ q) → wpList Try.prog ops Q rest (a.put o.dst v') w') : wpList Try.prog ops Q (o :: rest) a w := by
  obtain ⟨i, z, hi, hz0, hz1, hz2, hz3⟩ := info_bi
  have ht : Try.prog.underlying 37 = some (.slice 56) := Try.underlying37
  have hnews : ∀ j u, (biL r)[j]? = some u → w.cell? ((⟨B, 0, none⟩ : Addr).add j) = some u := fun j u hj => by rw [Addr.add_lit]; exact hr j u hj
  have hcat : (M ++ [r]).flatMap biL = M.flatMap biL ++ biL r := by simp [List.flatMap_append]
  have hlen : (M ++ [r]).length = M.length + 1 := by simp
  rcases hown with ⟨rfl, rfl⟩ | ⟨g, off, c, cc, rfl, hN, hg, h1, h2, h3, h4⟩
  · refine wpList_append_own_at w hgd s x 37 ho w.heap.size 56 i z 2 i.bytes ht hi hz0 hz1 rfl hz2 (by decide) (.slice none 0 0) 0 [] hs (World.ownsRow_nil _ _ _ _) ⟨B, 0, none⟩ 1 lc (biL r) hx rfl hnews (biL_one r) (by unfold maxLen; omega) (by omega) (Nat.le_refl _) ?_
    intro v' w' r1 r2 _ _
    have r1' : w'.ownsRow w.heap.size 56 2 v' ([] ++ [r]).length (([] ++ [r]).flatMap biL) := by rw [hcat, hlen]; exact r1
    refine h v' w' ?_ ((Ch.ofGrown r2).mono (fun q _ e => by cases e)) (fun q hq => .inr (r1.lt q hq).1)
    rcases own_ln r1' with h0 | ⟨g, off, c, cc, rfl, hN, rst⟩
    · exact .inl h0
    · exact .inr ⟨g, off, c, cc, rfl, Nat.le_trans hbase hN, rst⟩
  · by_cases hroom : M.length + 1 ≤ c
    · refine wpList_plain hgd fun K hK => ?_
      have hfit : off + M.length * i.size + (biL r).length ≤ cc.size := by rw [hz1, biL_len]; omega
      have hrun := run_append_off (P := Try.prog) w 37 o.type 56 i ht hi g off M.length c cc hg ⟨B, 0, none⟩ 1 lc (biL r) (by rw [hz1]; rfl) hnews (biL_one r) hroom hfit
      rw [hz1, biL_len] at hrun
      obtain ⟨X, hX⟩ : ∃ X, X = cc.toList.take (off + M.length * 2) ++ biL r ++ cc.toList.drop (off + M.length * 2 + 2) := ⟨_, rfl⟩
      rw [← hX] at hrun
      have hset := setRow_heap w g cc X.toArray 56 (0, 0) hg
      have hsz : X.length = cc.size := by rw [hX]; simp [biL_len]; rw [hz1, biL_len] at hfit; omega
      unfold Oper.wp
      simp [execOp, ho, resolve, invoke, builtin, hs, hx, hrun, Result.andThen]
      refine hK _ _ (h _ _ (.inr ⟨g, off, c, X.toArray, ?_, hN, hset, ?_, ?_, h3, ?_⟩) ((setRow_ch w g _).mono (fun q _ e => by have e' : q = g := e; rw [e']; rfl)) (fun q hq => .inl hq))
      · rw [hlen]
      · rw [List.size_toArray, hsz]; exact h1
      · rw [hlen]; exact hroom
      · intro j u hj
        have hcell : ∀ p, (w.setRow g X.toArray).cell? ⟨g, p, none⟩ = X[p]? := fun p => by simp [World.cell?, hset]
        have hold : ∀ p, w.cell? ⟨g, p, none⟩ = cc[p]? := fun p => by simp [World.cell?, hg]
        have hsp := splice_get cc.toList (biL r) (off + M.length * 2) (by rw [biL_len, Array.length_toList]; rw [hz1, biL_len] at hfit; exact hfit) (off + j)
        rw [biL_len] at hsp
        rw [hcell, hX, hsp]
        rw [hcat] at hj
        have hml : (M.flatMap biL).length = M.length * 2 := fmc_len 2 biL biL_len M
        by_cases hj1 : j < M.length * 2
        · rw [if_pos (by omega)]
          rw [List.getElem?_append_left (by omega)] at hj
          have := h4 j u hj
          rw [hold] at this
          rwa [Array.getElem?_toList]
        · rw [if_neg (by omega)]
          rw [List.getElem?_append_right (by omega), hml] at hj
          have hj2 := (List.getElem?_eq_some_iff.1 hj).1
          rw [biL_len] at hj2
          rw [if_pos (by omega), show off + j - (off + M.length * 2) = j - M.length * 2 by omega]
          exact hj
    · refine wpList_plain hgd fun K hK => ?_
      obtain ⟨v', w', hrun, r1, r2⟩ := run_append_arg_grows (P := Try.prog) w 37 o.type 56 i z 2 i.bytes ht hi hz0 hz1 rfl hz2 (by decide) ⟨g, off, none⟩ M.length c (M.flatMap biL) (fmc_len 2 biL biL_len M) (fun j u hj => by rw [Addr.add_lit]; exact h4 j u hj) ⟨B, 0, none⟩ 1 lc (biL r) rfl hnews (by omega) (by unfold maxLen; omega) (Nat.le_trans (Nat.mul_le_mul (show M.length + 1 ≤ 2000001 by omega) hz3) (by decide))
      have r1' : w'.ownsRow w.heap.size 56 2 v' (M ++ [r]).length ((M ++ [r]).flatMap biL) := by rw [hcat, hlen]; exact r1
      unfold Oper.wp
      simp [execOp, ho, resolve, invoke, builtin, hs, hx, hrun, Result.andThen]
      refine hK _ _ (h v' w' ?_ ((Ch.ofGrown r2).mono (fun q _ e => by cases e)) (fun q hq => .inr (r1.lt q hq).1))
      rcases own_ln r1' with h0 | ⟨g, off, c, cc, rfl, hN, rst⟩
      · exact .inl h0
      · exact .inr ⟨g, off, c, cc, rfl, Nat.le_trans hbase hN, rst⟩
end Go.Proofs.Ytclkcpdghpaboaa
