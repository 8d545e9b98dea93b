/-
  The statements' own helpers: alike, wide; bytes written over from the left; append onto a window.
-/
import Derived.Test.YtaicmpkgcppplaaRingAt
import Derived.Deep.Onto
namespace Go.Proofs.Ytaicmpkgcppplaa
open Go.RowKit

theorem wpList_append_full {P : Program} {w : World} {ops : Array Oper} {rest : List Oper} {o : Oper} {a : Act} {Q : Exit → Act → World → Prop} (hgd : o.guard = none) (s x : Operand) (t : TypeId)
    (ho : o.op = .call { callee := .builtin .append, args := #[s, x], argTypes := #[t, t] })
    (e : TypeId) (i : TypeInfo) (z : Value) (bytes : Nat) (ht : P.underlying t = some (.slice e)) (hi : P.info? e = some i) (hz : i.zero = some z)
    (hsize : i.size = 1) (hby : i.bytes = bytes) (hzs : z.cells.size = 1)
    (k : IntKind) (ao : Addr) (n : Nat) (zs : List Int) (hs : a.eval s = .slice (some ao) n n) (hn : zs.length = n) (hseg : Seg k w (some ao) zs)
    (ad : Addr) (m c : Nat) (news : List Value) (hx : a.eval x = .slice (some ad) m c) (hl : news.length = m) (hnews : ∀ j u, news[j]? = some u → w.cell? (ad.add j) = some u) (hm : 0 < m)
    (h63 : n + m ≤ maxLen) (hbytes : (n + m) * bytes ≤ 140737488355328)
    (h : ∀ v' w', w'.ownsRow w.heap.size e 1 v' (n + m) (zs.map (Value.int k) ++ news) → w.grownBy w' none → wpList P ops Q rest (a.put o.dst v') w') : wpList P ops Q (o :: rest) a w := by
  refine wpList_plain hgd fun K hK => ?_
  have holds : ∀ j u, (zs.map (Value.int k))[j]? = some u → w.cell? (ao.add j) = some u := by
    intro j u hu
    have hj : j < zs.length := by simpa using (List.getElem?_eq_some_iff.1 hu).1
    rcases hseg with h0 | ⟨b, off, e1, hc⟩
    · rw [h0] at hj; simp at hj
    · simp only [Option.some.injEq] at e1
      subst e1
      rw [Addr.add_lit, hc j hj]
      simp [List.getElem?_eq_getElem hj] at hu
      rw [← hu]
      simp [List.getD, hj]
  obtain ⟨v', w', hrun, r1, r2⟩ := run_append_arg_grows (P := P) w t o.type e i z 1 bytes ht hi hz hsize hby hzs (by decide) ao n n (zs.map (Value.int k)) (by simpa using hn) holds ad m c news (by simpa using hl) hnews (by omega) h63 hbytes
  unfold Oper.wp
  simp [execOp, ho, resolve, invoke, builtin, hs, hx, hrun, Result.andThen]
  exact hK _ _ (h v' w' r1 r2)
set_option maxHeartbeats 400000 in
set_option maxRecDepth 100000 in
theorem alike_any (a b : Option Addr) (ca cb : Nat) (l m : List Nat) (w : World) (hl : Seg .u8 w a (toI l)) (hm : Seg .u8 w b (toI m)) (hl2 : ∀ x ∈ l, x < 256) (hm2 : ∀ x ∈ m, x < 256) :
    Calls Try.prog 14 #[.slice a l.length ca, .slice b m.length cb] w fun e w' => e = .returned (.bool (decide (l = m))) ∧ w = w' := by
  have k1 := conv_any w a ca l hl hl2
  have k2 := conv_any w b cb m hm hm2
  obtain ⟨s, hs⟩ : ∃ s, s = strOf l := ⟨_, rfl⟩
  obtain ⟨t, ht⟩ : ∃ t, t = strOf m := ⟨_, rfl⟩
  rw [← hs] at k1
  rw [← ht] at k2
  have HD : Hid ((s.toList == t.toList) = decide (l = m)) := by
    show (s.toList == t.toList) = decide (l = m)
    rw [hs, ht, ByteArray.toList_eq, ByteArray.toList_eq]
    by_cases h : l = m
    · subst h; simp
    · have : (strOf l).data.toList ≠ (strOf m).data.toList := fun e => h (strOf_eq l m hl2 hm2 (WideShapes.bytes_inj e))
      rw [decide_eq_false h]
      simpa using this
  clear hs ht
  go_enter Try.func14, Try.ntmps14
  go_wp2
  go_ret
  exact ⟨congrArg (fun b => Ending.returned (.bool b)) HD.out, rfl⟩

/-- the first j places are f's -/
def ovr (f : Nat → Nat) (d : List Nat) (j : Nat) : List Nat := (List.range j).map f ++ d.drop j
theorem ovr_zero (f : Nat → Nat) (d : List Nat) : ovr f d 0 = d := by simp [ovr]
theorem ovr_len (f : Nat → Nat) (d : List Nat) (j : Nat) (h : j ≤ d.length) : (ovr f d j).length = d.length := by simp [ovr]; omega
theorem ovr_set (f : Nat → Nat) (d : List Nat) (j : Nat) (h : j < d.length) : (ovr f d j).set j (f j) = ovr f d (j + 1) := by
  unfold ovr
  rw [List.set_append_right _ _ (by simp), List.length_map, List.length_range, Nat.sub_self, List.drop_eq_getElem_cons h, List.set_cons_zero, List.range_succ, List.map_append]
  simp
theorem ovr_lo (f : Nat → Nat) (d : List Nat) (j i : Nat) (h : i < j) : (ovr f d j)[i]? = some (f i) := by
  unfold ovr
  rw [List.getElem?_append_left (by simpa using h)]
  simp [h]
theorem Try.infoBytes3 : (Try.prog.info? 5).map (fun i => (i.zero, i.size, i.bytes)) = some (some (.int .u8 0), 1, 1) := by kernel_rfl
theorem news3 (w : World) (t : TypeId) (x y z : Value) : ∀ j u, ([x, y, z] : List Value)[j]? = some u → (w.alloc (.cells #[x, y, z] t)).cell? ((⟨w.heap.size, 0, none⟩ : Addr).add j) = some u := by
  intro j u hu
  rw [Addr.add_lit, Nat.zero_add, World.cell?_alloc_at _ _ _ _ rfl]
  simpa using hu
set_option maxRecDepth 100000 in
set_option maxHeartbeats 800000 in
theorem wide_any (a : Option Addr) (c : Nat) (l : List Nat) (w : World) (hs : Seg .u8 w a (toI l)) (hl : l.length ≤ 1000000) :
    Calls Try.prog 20 #[.slice a l.length c] w fun e w' => ∃ g cp, e = .returned (.slice (some ⟨g, 0, none⟩) (l.length + 3) cp) ∧ w'.ownsRow w.heap.size 5 1 (.slice (some ⟨g, 0, none⟩) (l.length + 3) cp) (l.length + 3) ((toI (l ++ [91, 92, 93])).map (Value.int .u8)) ∧ Below w.heap.size w w' := by
  obtain ⟨i0, hi, hz0, hz1, hz2⟩ := info_parts Try.infoByte
  obtain ⟨n, hn⟩ : ∃ n, n = l.length := ⟨_, rfl⟩
  have HN : Hid (l.length = n) := hn.symm
  rw [← hn] at hl ⊢
  clear hn
  go_enter Try.func20, Try.ntmps20
  go_wp2_with (first | (at_builtin; refine append_split_seg rfl (.tmp 4) (.tmp 5) 30 rfl w.heap.size 5 i0 (.int .u8 0) 1 Try.underlying30 hi hz0 hz1 hz2 rfl (.slice none 0 0) 0 [] rfl (World.ownsRow_nil _ _ _ _) .u8 a n c (toI l) rfl (by rw [toI_len]; exact HN.out) hs (by unfold maxLen; omega) (by omega) (Nat.le_refl _) ?_))
  intro v1 w1 ho1 hq1 hg1
  have hb1 : Below w.heap.size w w1 := (Below.refl _ _).grown hg1 (Nat.le_refl _) (by intro k hk; simp [Value.ownBlock] at hk)
  obtain ⟨a1, c1, rfl⟩ := owns_shape ho1
  try simp only [Nat.zero_add, List.nil_append] at ho1
  have ho2 : (w1.alloc (.cells #[.int .u8 91, .int .u8 92, .int .u8 93] 5)).ownsRow w.heap.size 5 1 (.slice a1 n c1) n ((toI l).map (Value.int .u8)) := by
    have := ho1.alloc (.cells #[.int .u8 91, .int .u8 92, .int .u8 93] 5)
    simpa using this
  have hb2 : Below w.heap.size w (w1.alloc (.cells #[.int .u8 91, .int .u8 92, .int .u8 93] 5)) := hb1.alloc hb1.size _
  clear hq1 hg1 ho1 hs
  go_wp2_with (first | (at_builtin; refine append_split rfl (.tmp 7) (.tmp 8) 30 rfl w.heap.size 5 i0 (.int .u8 0) 1 Try.underlying30 hi hz0 hz1 hz2 rfl (.slice a1 n c1) n ((toI l).map (Value.int .u8)) rfl ho2 ⟨w1.heap.size, 0, none⟩ 3 3 [.int .u8 91, .int .u8 92, .int .u8 93] rfl rfl (news3 _ _ _ _ _) (by intro u hu; simp at hu; rcases hu with rfl | rfl | rfl <;> rfl) (by unfold maxLen; omega) (by omega) hb2.size ?_))
  intro v3 w3 ho3 hg3
  have hb3 : Below w.heap.size w w3 := by
    rcases hg3 with ⟨g1, _⟩ | ⟨g1, _, _⟩
    · exact hb2.grown g1 hb2.size (by intro k hk; cases hk)
    · exact hb2.grown g1 hb2.size (fun k hk => (ho2.lt k hk).1)
  have ho4 : w3.ownsRow w.heap.size 5 1 v3 (n + 3) ((toI (l ++ [91, 92, 93])).map (Value.int .u8)) := by
    have e : (toI (l ++ [91, 92, 93])).map (Value.int .u8) = (toI l).map (Value.int .u8) ++ [.int .u8 91, .int .u8 92, .int .u8 93] := by simp [toI]
    rw [e]; exact ho3
  clear hg3 ho3 hb2 ho2 hb1
  rcases ho4.2 with ⟨_, h0⟩ | ⟨g, cp, cur, rfl, _⟩
  · omega
  go_wp2
  go_ret
  exact ⟨g, cp, rfl, ho4, hb3⟩
end Go.Proofs.Ytaicmpkgcppplaa
