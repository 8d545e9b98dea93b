/-
  append onto a slice that has no spare room, wherever it lies: a new row; and what the bytes of a row are behind writes.
-/
import Derived.Test.YthfhagcbakihjaaOwn
import Derived.Deep.Onto
namespace Go.Proofs.Ythfhagcbakihjaa
open Go.RowKit

theorem wpList_append_full {P : Program} {w : World} {ops : Array Oper} {rest : List Oper} {o : Oper} {a : Act} {Q : Exit → Act → World → Prop} (hgd : o.guard = none) (s x : Operand) (t : TypeId)
    (ho : o.op = .call { callee := .builtin .append, args := #[s, x], argTypes := #[t, t] })
    (e : TypeId) (i : TypeInfo) (z : Value) (bytes : Nat) (ht : P.underlying t = some (.slice e)) (hi : P.info? e = some i) (hz : i.zero = some z)
    (hsize : i.size = 1) (hby : i.bytes = bytes) (hzs : z.cells.size = 1)
    (k : IntKind) (ao : Addr) (n : Nat) (zs : List Int) (hs : a.eval s = .slice (some ao) n n) (hn : zs.length = n) (hseg : Seg k w (some ao) zs)
    (ad : Addr) (m c : Nat) (news : List Value) (hx : a.eval x = .slice (some ad) m c) (hl : news.length = m) (hnews : ∀ j u, news[j]? = some u → w.cell? (ad.add j) = some u) (hm : 0 < m)
    (h63 : n + m ≤ maxLen) (hbytes : (n + m) * bytes ≤ 140737488355328)
    (h : ∀ v' w', w'.ownsRow w.heap.size e 1 v' (n + m) (zs.map (Value.int k) ++ news) → w.grownBy w' none → wpList P ops Q rest (a.put o.dst v') w') : wpList P ops Q (o :: rest) a w := by
  refine wpList_plain hgd fun K hK => ?_
  have holds : ∀ j u, (zs.map (Value.int k))[j]? = some u → w.cell? (ao.add j) = some u := by
    intro j u hu
    have hj : j < zs.length := by simpa using (List.getElem?_eq_some_iff.1 hu).1
    rcases hseg with h0 | ⟨b, off, e1, hc⟩
    · rw [h0] at hj; simp at hj
    · simp only [Option.some.injEq] at e1
      subst e1
      rw [Addr.add_lit, hc j hj]
      simp [List.getElem?_eq_getElem hj] at hu
      rw [← hu]
      simp [List.getD, hj]
  obtain ⟨v', w', hrun, r1, r2⟩ := run_append_arg_grows (P := P) w t o.type e i z 1 bytes ht hi hz hsize hby hzs (by decide) ao n n (zs.map (Value.int k)) (by simpa using hn) holds ad m c news (by simpa using hl) hnews (by omega) h63 hbytes
  unfold Oper.wp
  simp [execOp, ho, resolve, invoke, builtin, hs, hx, hrun, Result.andThen]
  exact hK _ _ (h v' w' r1 r2)
end Go.Proofs.Ythfhagcbakihjaa
