/-
  Layer 20, captures: lists of frames that come in.
-/
import Derived.Test.YtpdfepnifjolkaaDC6
import Derived.Test.YtpdfepnifjolkaaOpenG
namespace Go.Proofs.Ytpdfepnifjolkaa
open Go.RowKit
open Go.ChangeShapes Go.WideShapes Go.ChangeAt

structure CeOk (W : World) (c : CE) : Prop where
  seg : Seg .u8 W c.a (toI c.d)
  b8 : ∀ x ∈ c.d, x < 256
  len : c.d.length ≤ 1048576
theorem Try.cellsCe : Try.prog.cellsOf 37 = 4 := by kernel_rfl
theorem Try.cellsIn : Try.prog.cellsOf 3 = 1 := by kernel_rfl
theorem Try.cellsRw : Try.prog.cellsOf 22 = 1 := by kernel_rfl
theorem Try.cellsBl : Try.prog.cellsOf 4 = 1 := by kernel_rfl
def CapsU (W : World) (a : Option Addr) (L : List CE) : Prop := ListG 4 ceL (CeOk W) W a L
theorem CapsU.inn {W : World} {a : Option Addr} {L : List CE} (h : CapsU W a L) : CapsIn W a L ∧ ∀ c ∈ L, c.d.length ≤ 1048576 := by
  rcases h with rfl | ⟨b, off, ha, hlt, hc⟩
  · exact ⟨.inl rfl, by simp⟩
  · refine ⟨.inr ⟨b, off, ha, hlt, fun i o ho => ⟨⟨(hc i o ho).1.seg, (hc i o ho).1.b8⟩, (hc i o ho).2⟩⟩, fun c h => ?_⟩
    obtain ⟨i, hi⟩ := List.getElem?_of_mem h
    exact (hc i c hi).1.len
section
variable {H : Type} {enc : TypeId × Value → H} {W : World}
theorem open_ce (fuel : Nat) (cs : List Value) (x : DataW H × List MemPlace) (hf : DataW.trod enc Try.prog W 0 (fun _ => true) true fuel 37 cs = some x) (hbk : Rows.uptoBulk x.1 ≤ 1048576) : ∃ o : CE, cs = ceL o ∧ CeOk W o := by
  obtain ⟨xs, n, _, hx, hl, hlen, hfs⟩ := DataW.trod_struct Try.underlying37 hf
  rw [Try.cellsCe] at hl
  have f0 : DataW.trod enc Try.prog W 0 (fun _ => true) true n 3 ((cs.drop 0).take (Try.prog.cellsOf 3)) = xs[0]? := hfs 0 _ rfl
  have f1 : DataW.trod enc Try.prog W 0 (fun _ => true) true n 3 ((cs.drop 1).take (Try.prog.cellsOf 3)) = xs[1]? := hfs 1 _ rfl
  have f2 : DataW.trod enc Try.prog W 0 (fun _ => true) true n 4 ((cs.drop 2).take (Try.prog.cellsOf 4)) = xs[2]? := hfs 2 _ rfl
  have f3 : DataW.trod enc Try.prog W 0 (fun _ => true) true n 22 ((cs.drop 3).take (Try.prog.cellsOf 22)) = xs[3]? := hfs 3 _ rfl
  have hxl : xs.length = 4 := hlen
  rw [Try.cellsIn] at f0 f1
  rw [Try.cellsBl] at f2
  rw [Try.cellsRw] at f3
  rw [List.getElem?_eq_getElem (by omega)] at f0 f1 f2 f3
  have hd : x.1 = .agg (xs.map (·.1)) := (Prod.mk.inj hx).1
  have hb1 : Rows.uptoBulk xs[3].1 ≤ 1048576 := by
    have := bulk_memG (d := xs[3].1) (l := xs.map (·.1)) (List.mem_map.2 ⟨xs[3], List.getElem_mem (by omega), rfl⟩)
    rw [hd] at hbk
    simp only [Rows.uptoBulk] at hbk
    omega
  obtain ⟨c0, c1, c2, c3, rfl⟩ : ∃ c0 c1 c2 c3, cs = [c0, c1, c2, c3] := match cs, hl with | [a, b, c, d], _ => ⟨a, b, c, d, rfl⟩
  simp only [List.drop_zero, List.drop_succ_cons, List.take_succ_cons, List.take_zero] at f0 f1 f2 f3
  obtain ⟨z0, e0, _, _⟩ := DataW.trod_int Try.underlying3 f0
  obtain ⟨z1, e1, _, _⟩ := DataW.trod_int Try.underlying3 f1
  obtain ⟨sm, e2, _⟩ := DataW.trod_bool Try.underlying4 f2
  obtain ⟨ba, bn, bc, zs, e3, hrow, hcap⟩ := open_rowG Try.underlying22 Try.underlying5 (by kernel_rfl) f3
  obtain ⟨bs, hbl, hseg, h1, h2, h3⟩ := hrow.bytes
  simp only [List.cons.injEq, and_true] at e0 e1 e2
  refine ⟨⟨z0, z1, sm, bs, ba, bc⟩, ?_, ⟨hseg, h3, by show bs.length ≤ 1048576; omega⟩⟩
  rw [e0, e1, e2, e3]
  unfold ceL ceA
  simp only
  rw [hbl]
theorem open_caps {fuel : Nat} {a : Option Addr} {len cap : Nat} {d : DataW H} {p : List MemPlace} (hf : DataW.trod enc Try.prog W 0 (fun _ => true) true fuel 23 [.slice a len cap] = some (d, p)) (hb : Rows.uptoBulk d ≤ 1048576) :
    ∃ rs : List CE, rs.length = len ∧ CapsU W a rs ∧ len ≤ 1048576 :=
  open_list 4 ceL (CeOk W) Try.underlying23 Try.cellsCe (by decide) ceL_len open_ce hf hb
end
end Go.Proofs.Ytpdfepnifjolkaa
