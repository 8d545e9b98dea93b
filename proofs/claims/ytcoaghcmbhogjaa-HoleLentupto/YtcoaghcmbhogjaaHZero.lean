/-
  append(s, make([]byte, m)...) onto a row of one's own; append of a list of holes.
-/
import Derived.Test.YtcoaghcmbhogjaaHMem
import Derived.Lib.AppendZerosOnto
namespace Go.Proofs.Ytcoaghcmbhogjaa
open Go.RowKit Go.Maps
namespace H11

theorem zeroCells_u8 (m : Nat) : Builtin.zeroCells (Value.int .u8 0).cells m = (List.replicate m (Value.int .u8 0)).toArray := by
  have e : (Value.int .u8 0).cells = #[Value.int .u8 0] := rfl
  rw [e]
  unfold Builtin.zeroCells
  apply Array.ext
  · simp
  · intro i h1 h2
    simp [Nat.mod_one]

theorem run_append_room_zeros {P : Program} (w : World) (t tn ty e : TypeId) (i : TypeInfo) (kn : IntKind) (ht : P.underlying t = some (.slice e)) (htn : P.underlying tn = some (.int kn)) (hi : P.info? e = some i) (hz : i.zero = some (.int .u8 0)) (hsz : i.size = 1) (hby : i.bytes = 1)
    (g sLen sCap : Nat) (cur : Array Value) (hg : w.heap[g]? = some (.cells cur e (0, 0))) (m : Nat) (h0 : 0 < m) (hm : m ≤ 1000000) (hroom : sLen + m ≤ sCap) (hfit : sLen + m ≤ cur.size) :
    (Builtin.append_ #[t, tn] ty #[.slice (some ⟨g, 0, none⟩) sLen sCap, .int .i64 m]).run P w =
      .ok (.slice (some ⟨g, 0, none⟩) (sLen + m) sCap) (w.setRow g (cur.toList.take sLen ++ List.replicate m (Value.int .u8 0) ++ cur.toList.drop (sLen + m)).toArray) := by
  have hst := run_storeCells_at P g sLen e (List.replicate m (.int .u8 0)) 0 cur w hg (by simpa using hfit) (by intro v hv; rw [List.mem_replicate] at hv; rw [hv.2]; rfl)
  simp only [Nat.add_zero, List.length_replicate] at hst
  have hw : IntKind.i64.wrap (m : Int) = m := by rw [IntKind.wrap_i64]; omega
  have hneg : ¬ ((m : Int) < 0) := by omega
  have h48i : ¬ (281474976710656 < (m : Int)) := by omega
  have hne : m ≠ 0 := by omega
  simp [Builtin.append_, run_underlying ht, run_underlying htn, sizeOf, typeInfo, zeroValue, hi, hz, hsz, hby, asInt, asIntOf, hw, hneg, h48i, hne, hroom, Addr.add_lit, zeroCells_u8, hst]

theorem append_zeros {P : Program} {w : World} {ops : Array Oper} {rest : List Oper} {o : Oper} {a : Act} {Q : Exit → Act → World → Prop} (hgd : o.guard = none) (s x : Operand) (t tn : TypeId)
    (ho : o.op = .call { callee := .builtin .append, args := #[s, x], argTypes := #[t, tn] })
    (e : TypeId) (i : TypeInfo) (kn : IntKind) (ht : P.underlying t = some (.slice e)) (htn : P.underlying tn = some (.int kn)) (hi : P.info? e = some i) (hz : i.zero = some (.int .u8 0)) (hsize : i.size = 1) (hby : i.bytes = 1)
    (v : Value) (n : Nat) (xs : List Value) (hs : a.eval s = v) (hown : w.ownsRow 0 e 1 v n xs) (m : Nat) (hx : a.eval x = .int .i64 m) (h0 : 0 < m) (hm : n + m ≤ 1000000)
    (h : ∀ v' w', w'.ownsRow 0 e 1 v' (n + m) (xs ++ List.replicate m (.int .u8 0)) → (∀ q, v'.ownBlock = some q → v.ownBlock = some q ∨ w.heap.size ≤ q) → w.grownBy w' v.ownBlock → wpList P ops Q rest (a.put o.dst v') w') : wpList P ops Q (o :: rest) a w := by
  have grows : ∀ (b : Option Addr) (c : Nat), v = .slice b n c → c < n + m → ((Builtin.firstCells i.size n (.slice b n c)).run P w.drew = .ok xs.toArray w.drew) → xs.length = n → wpList P ops Q (o :: rest) a w := by
    intro b c hv hc hf hxl
    subst hv
    have hrun := Lib.run_append_grow_zeros (P := P) w t tn o.type e i (.int .u8 0) .i64 kn ht htn hi hz b n c xs hf m h0 (by omega) hc (by omega) (by rw [hby]; omega) (by
      rw [hby]
      have := growslice_fits (need := n + m) (old := c) (bytes := 1) (by omega) (by omega)
      omega)
    refine wpList_plain hgd fun K hK => ?_
    unfold Oper.wp
    simp only [execOp, ho, resolve, invoke, builtin, Sem.run_bind, Sem.run_pure, Result.andThen_ok, List.map_toArray, List.map_cons, List.map_nil, hs, hx, hrun]
    have hge := grownCap_ge w (n + m) c e
    have hcm : grownCap w (n + m) c e ≤ maxLen := grownCap_le_maxLen w (n + m) c e (by unfold maxLen; omega)
    refine hK _ _ (h _ _ ⟨by simp [hxl], .inr ⟨w.heap.size, _, _, rfl, Nat.zero_le _, heap_alloc_new w.drew _, hge, hcm, ?_, ?_⟩⟩ ?_ ⟨rfl, rfl, rfl, by simp, fun k hk _ => heap_alloc_old w.drew _ hk⟩)
    · rw [zeroCells_u8, zeroCells_u8]
      simp [hxl]
      omega
    · rw [zeroCells_u8]
      simp only [Array.toList_append, List.append_assoc]
      rw [← List.append_assoc, Nat.mul_one]
      exact List.take_left' (show (xs ++ List.replicate m (Value.int .u8 0)).length = n + m by simp [hxl])
    · intro q hq
      right
      simp [Value.ownBlock] at hq
      omega
  have hlen : xs.length = n := by simpa using hown.1
  rcases hown.2 with ⟨rfl, rfl⟩ | ⟨g, cap, cur, rfl, hbg, hg, hnc, hcm, hcs, htake⟩
  · have hx0 : xs = [] := List.eq_nil_of_length_eq_zero hlen
    subst hx0
    exact grows none 0 rfl (by omega) (by simp [Builtin.firstCells]) rfl
  · by_cases hroom : n + m ≤ cap
    · have hrun := run_append_room_zeros (P := P) w t tn o.type e i kn ht htn hi hz hsize hby g n cap cur hg m h0 (by omega) hroom (by rw [hcs]; omega)
      refine wpList_plain hgd fun K hK => ?_
      unfold Oper.wp
      simp only [execOp, ho, resolve, invoke, builtin, Sem.run_bind, Sem.run_pure, Result.andThen_ok, List.map_toArray, List.map_cons, List.map_nil, hs, hx, hrun]
      refine hK _ _ (h _ _ ⟨by simp [hlen], .inr ⟨g, cap, _, rfl, hbg, setRow_heap w g cur _ e _ hg, hroom, hcm, ?_, ?_⟩⟩ (fun q hq => .inl hq) ⟨rfl, rfl, rfl, by simp, fun k _ hk => setRow_other w g k _ (fun e => hk (by simp [Value.ownBlock, e]))⟩)
      · simp
        omega
      · rw [Nat.mul_one] at htake
        rw [htake, Nat.mul_one]
        exact List.take_left' (show (xs ++ List.replicate m (Value.int .u8 0)).length = n + m by simp [hlen])
    · refine grows _ cap rfl (by omega) ?_ hlen
      exact run_firstCells_some (P := P) w.drew i.size n ⟨g, 0, none⟩ n cap xs (by rw [hsize]; simpa using hlen) (hown.cells (g := g) rfl)

theorem toI_zeros (b : List Nat) (m : Nat) : (toI b).map (Value.int .u8) ++ List.replicate m (Value.int .u8 0) = (toI (b ++ List.replicate m 0)).map (Value.int .u8) := by
  simp [toI]

end H11
end Go.Proofs.Ytcoaghcmbhogjaa
