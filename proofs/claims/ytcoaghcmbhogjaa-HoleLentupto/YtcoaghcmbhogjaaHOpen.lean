/-
  Lists of pieces that come in; cut.
-/
import Derived.Test.YtcoaghcmbhogjaaOpenG
import Derived.Test.YtcoaghcmbhogjaaHNew
namespace Go.Proofs.Ytcoaghcmbhogjaa
open Go.RowKit
open Go.ChangeShapes Go.WideShapes Go.ChangeAt

/-- a piece -/
structure PcV where
  off : Int
  a : Option Addr
  cap : Nat
  bs : List Nat
  more : Bool
def PcV.cells (o : PcV) : List Value := [.int .i64 o.off, .slice o.a o.bs.length o.cap, .bool o.more]
structure PcOk (W : World) (o : PcV) : Prop where
  seg : Seg .u8 W o.a (toI o.bs)
  b8 : ∀ x ∈ o.bs, x < 256
  le : o.bs.length ≤ o.cap
  cap : o.cap ≤ 1048576
theorem Try.cellsPcV : Try.prog.cellsOf 37 = 3 := by kernel_rfl
theorem Try.cellsIn : Try.prog.cellsOf 3 = 1 := by kernel_rfl
theorem Try.cellsRw : Try.prog.cellsOf 22 = 1 := by kernel_rfl
theorem Try.cellsBl : Try.prog.cellsOf 4 = 1 := by kernel_rfl
def PcsU (W : World) (a : Option Addr) (ts : List PcV) : Prop := ListG 3 PcV.cells (PcOk W) W a ts
section
variable {H : Type} {enc : TypeId × Value → H} {W : World}
theorem open_pc (fuel : Nat) (cs : List Value) (x : DataW H × List MemPlace) (hf : DataW.trod enc Try.prog W 0 (fun _ => true) true fuel 37 cs = some x) (hbk : Rows.uptoBulk x.1 ≤ 1048576) : ∃ o : PcV, cs = o.cells ∧ PcOk W o := by
  obtain ⟨xs, n, _, hx, hl, hlen, hfs⟩ := DataW.trod_struct Try.underlying37 hf
  rw [Try.cellsPcV] at hl
  have f0 : DataW.trod enc Try.prog W 0 (fun _ => true) true n 3 ((cs.drop 0).take (Try.prog.cellsOf 3)) = xs[0]? := hfs 0 _ rfl
  have f1 : DataW.trod enc Try.prog W 0 (fun _ => true) true n 22 ((cs.drop 1).take (Try.prog.cellsOf 22)) = xs[1]? := hfs 1 _ rfl
  have f2 : DataW.trod enc Try.prog W 0 (fun _ => true) true n 4 ((cs.drop 2).take (Try.prog.cellsOf 4)) = xs[2]? := hfs 2 _ rfl
  have hxl : xs.length = 3 := hlen
  rw [Try.cellsIn] at f0
  rw [Try.cellsRw] at f1
  rw [Try.cellsBl] at f2
  rw [List.getElem?_eq_getElem (by omega)] at f0 f1 f2
  have hd : x.1 = .agg (xs.map (·.1)) := (Prod.mk.inj hx).1
  have hb1 : Rows.uptoBulk xs[1].1 ≤ 1048576 := by
    have := bulk_memG (d := xs[1].1) (l := xs.map (·.1)) (List.mem_map.2 ⟨xs[1], List.getElem_mem (by omega), rfl⟩)
    rw [hd] at hbk
    simp only [Rows.uptoBulk] at hbk
    omega
  obtain ⟨c0, c1, c2, rfl⟩ : ∃ c0 c1 c2, cs = [c0, c1, c2] := match cs, hl with | [a, b, c], _ => ⟨a, b, c, rfl⟩
  simp only [List.drop_zero, List.drop_succ_cons, List.take_succ_cons, List.take_zero] at f0 f1 f2
  obtain ⟨z0, e0, _, _⟩ := DataW.trod_int Try.underlying3 f0
  obtain ⟨sm, e2, _⟩ := DataW.trod_bool Try.underlying4 f2
  obtain ⟨ba, bn, bc, zs, e1, hrow, hcap⟩ := open_rowG Try.underlying22 Try.underlying5 (by kernel_rfl) f1
  obtain ⟨bs, hbl, hseg, h1, h2, h3⟩ := hrow.bytes
  simp only [List.cons.injEq, and_true] at e0 e2
  refine ⟨⟨z0, ba, bc, bs, sm⟩, ?_, ⟨hseg, h3, by show bs.length ≤ bc; omega, by show bc ≤ _; omega⟩⟩
  rw [e0, e1, e2]
  unfold PcV.cells
  simp only
  rw [hbl]
theorem open_pcs {fuel : Nat} {a : Option Addr} {len cap : Nat} {d : DataW H} {p : List MemPlace} (hf : DataW.trod enc Try.prog W 0 (fun _ => true) true fuel 25 [.slice a len cap] = some (d, p)) (hb : Rows.uptoBulk d ≤ 1048576) :
    ∃ rs : List PcV, rs.length = len ∧ ListG 3 PcV.cells (PcOk W) W a rs ∧ len ≤ 1048576 :=
  open_list 3 PcV.cells (PcOk W) Try.underlying25 Try.cellsPcV (by decide) (fun _ => rfl) open_pc hf hb
end
namespace H11
set_option maxRecDepth 100000 in
set_option maxHeartbeats 1600000 in
theorem cut_any (w : World) (a : Option Addr) (n c : Nat) (bs : List Nat) (hn : bs.length = n) (hc : n ≤ c) (hs : Seg .u8 w a (toI bs)) :
    Calls Try.prog 10 #[.slice a n c] w fun r w' => ∃ ua uc, r = .returned (.slice ua (bs.take 4096).length uc) ∧ w'.ownsRow w.heap.size 5 1 (.slice ua (bs.take 4096).length uc) (bs.take 4096).length ((toI (bs.take 4096)).map (Value.int .u8)) ∧ Below w.heap.size w w' := by
  obtain ⟨i0, hi, hz0, hz1, hz2⟩ := info_parts Try.infoByte
  by_cases h1 : 4096 < n
  · have d1 : (4096 : Int) < (n : Int) := by omega
    have hs2 : Seg .u8 w a (toI (bs.take 4096)) := by
      have := hs.part0 4096 (by rw [toI_len]; omega)
      rw [toI_take] at this
      exact this
    have hl2 : (toI (bs.take 4096)).length = 4096 := by rw [toI_len, List.length_take]; omega
    obtain ⟨l, hl⟩ : ∃ l, l = bs.take 4096 := ⟨_, rfl⟩
    rw [← hl] at hs2 hl2 ⊢
    have hll : l.length = 4096 := by rw [toI_len] at hl2; exact hl2
    rw [hll]
    have hcc : 4096 ≤ c := by omega
    clear hn hs hl hll h1
    go_enter Try.func10, Try.ntmps10
    go_wp2_with (first | (at_builtin; refine wpList_append_seg rfl (.tmp 9) (.tmp 10) 22 rfl w.heap.size 5 i0 _ 1 Try.underlying22 hi hz0 hz1 hz2 rfl (.slice none 0 0) 0 [] rfl (World.ownsRow_nil _ _ _ _) .u8 a 4096 _ (toI l) rfl hl2 hs2 (by decide) (by omega) (Nat.le_refl _) ?_))
    intro u w1 ho1 hg1
    have hb1 : Below w.heap.size w w1 := (Below.refl _ _).grown hg1 (Nat.le_refl _) (by intro k hk; simp [Value.ownBlock] at hk)
    obtain ⟨ua, uc, rfl⟩ := owns_shape ho1
    clear hg1 hs2
    go_wp2
    go_ret
    exact ⟨ua, uc, by simp, by simpa using ho1, hb1⟩
  · have d1 : ¬ (4096 : Int) < (n : Int) := by omega
    have e0 : bs.take 4096 = bs := List.take_of_length_le (by omega)
    rw [e0]
    have hl2 : (toI bs).length = n := by rw [toI_len]; exact hn
    rw [hn]
    have hn2 : n ≤ 4096 := by omega
    clear e0 h1 hn
    go_enter Try.func10, Try.ntmps10
    go_wp2_with (first | (at_builtin; refine wpList_append_seg rfl (.tmp 9) (.tmp 10) 22 rfl w.heap.size 5 i0 _ 1 Try.underlying22 hi hz0 hz1 hz2 rfl (.slice none 0 0) 0 [] rfl (World.ownsRow_nil _ _ _ _) .u8 a n _ (toI bs) rfl hl2 hs (by unfold maxLen; omega) (by omega) (Nat.le_refl _) ?_))
    intro u w1 ho1 hg1
    have hb1 : Below w.heap.size w w1 := (Below.refl _ _).grown hg1 (Nat.le_refl _) (by intro k hk; simp [Value.ownBlock] at hk)
    obtain ⟨ua, uc, rfl⟩ := owns_shape ho1
    clear hg1 hs
    go_wp2
    go_ret
    exact ⟨ua, uc, by simp, by simpa using ho1, hb1⟩
end H11
end Go.Proofs.Ytcoaghcmbhogjaa
