/-
  SumAgain's arguments: the parts (a list of rows of bytes, bounded) and the turns (a list of structs).
-/
import Derived.Test.YtbbhnekdejamiaaOpenGS
import Derived.Test.YtbbhnekdejamiaaSA4
namespace Go.Proofs.Ytbbhnekdejamiaa
open Go.RowKit
open Go.ChangeShapes Go.WideShapes Go.ChangeAt

def pCells (o : Part) : List Value := [o.val]
def pOk (W : World) (o : Part) : Prop := o.ok W ∧ o.cap ≤ 1048576
/-- a turn -/
structure TuV where
  p : Int
  q : Int
  b : Nat
  s : Bool
def TuV.cells (o : TuV) : List Value := [.int .i64 o.p, .int .i64 o.q, .int .u8 (o.b : Int), .bool o.s]
theorem Try.cellsPv : Try.prog.cellsOf 26 = 1 := by kernel_rfl
theorem Try.cellsTu : Try.prog.cellsOf 40 = 4 := by kernel_rfl
theorem Try.cellsIn : Try.prog.cellsOf 3 = 1 := by kernel_rfl
theorem Try.cellsBy : Try.prog.cellsOf 5 = 1 := by kernel_rfl
theorem Try.cellsBl : Try.prog.cellsOf 4 = 1 := by kernel_rfl
def PartsU (W : World) (a : Option Addr) (rs : List Part) : Prop := ListG 1 pCells (pOk W) W a rs
def TurnsU (W : World) (a : Option Addr) (ts : List TuV) : Prop := ListG 4 TuV.cells (fun o => o.b < 256) W a ts
section
variable {H : Type} {enc : TypeId × Value → H} {W : World}
theorem open_pv (fuel : Nat) (cs : List Value) (x : DataW H × List MemPlace) (hf : DataW.trod enc Try.prog W 0 (fun _ => true) true fuel 26 cs = some x) (hb : Rows.uptoBulk x.1 ≤ 1048576) : ∃ o : Part, cs = pCells o ∧ pOk W o := by
  obtain ⟨d, p⟩ := x
  have key : ∃ a len cap zs, cs = [.slice a len cap] ∧ IsRow .u8 W a len cap zs ∧ cap ≤ Rows.uptoBulk d := by
    rcases open_ints Try.underlying26 Try.underlying5 (by kernel_rfl) hf with ⟨hcs, _⟩ | ⟨x, l, c, zs, hcs, _, hl, hm, hz, hx, hcell, hwz⟩
    · exact ⟨none, 0, 0, [], hcs, .inl ⟨rfl, rfl, rfl, rfl⟩, Nat.zero_le _⟩
    · exact ⟨_, l, c, zs, hcs, .inr ⟨_, rfl, hl, hm, by simpa using hz, hcell, hwz⟩, bulk_row hl (by simpa using hz) hx⟩
  obtain ⟨a, len, cap, zs, rfl, hr, hc⟩ := key
  obtain ⟨bs, hbl, hsg, h1, _, h256⟩ := hr.bytes
  have hcap := Nat.le_trans hc hb
  exact ⟨⟨a, cap, bs⟩, by unfold pCells Part.val; rw [hbl], ⟨hsg, h256, by show bs.length ≤ cap; rw [hbl]; exact h1, by show cap ≤ _; omega⟩, hcap⟩
theorem open_pvs {fuel : Nat} {a : Option Addr} {len cap : Nat} {d : DataW H} {p : List MemPlace} (hf : DataW.trod enc Try.prog W 0 (fun _ => true) true fuel 22 [.slice a len cap] = some (d, p)) (hb : Rows.uptoBulk d ≤ 1048576) :
    ∃ rs : List Part, rs.length = len ∧ ListG 1 pCells (pOk W) W a rs ∧ len ≤ 1048576 :=
  open_list 1 pCells (pOk W) Try.underlying22 Try.cellsPv (by decide) (fun _ => rfl) open_pv hf hb
set_option maxRecDepth 100000 in
theorem open_tu (fuel : Nat) (cs : List Value) (x : DataW H × List MemPlace) (hf : DataW.trod enc Try.prog W 0 (fun _ => true) true fuel 40 cs = some x) (_ : Rows.uptoBulk x.1 ≤ 1048576) : ∃ o : TuV, cs = o.cells ∧ o.b < 256 := by
  obtain ⟨xs, n, _, _, hl, hlen, hf⟩ := DataW.trod_struct Try.underlying40 hf
  rw [Try.cellsTu] at hl
  have f0 := hf 0 _ rfl
  have f1 := hf 1 _ rfl
  have f2 := hf 2 _ rfl
  have f3 := hf 3 _ rfl
  simp [Try.cellsIn, Try.cellsBy, Try.cellsBl] at f0 f1 f2 f3
  have hl4 : xs.length = 4 := hlen
  rw [List.getElem?_eq_getElem (by omega)] at f0 f1 f2 f3
  obtain ⟨p, e0, _, _⟩ := DataW.trod_int Try.underlying3 f0
  obtain ⟨q, e1, _, _⟩ := DataW.trod_int Try.underlying3 f1
  obtain ⟨b, e2, _, wb⟩ := DataW.trod_int Try.underlying5 f2
  obtain ⟨s, e3, _⟩ := DataW.trod_bool Try.underlying4 f3
  obtain ⟨bn, rfl, hbn⟩ : ∃ c : Nat, b = (c : Int) ∧ c < 256 := by
    simp [Lit.wf, IntKind.min, IntKind.max, IntKind.bits, IntKind.signed] at wb
    exact ⟨b.toNat, by omega, by omega⟩
  match cs, hl with
  | [c0, c1, c2, c3], _ =>
    simp at e0 e1 e2 e3
    exact ⟨⟨p, q, bn, s⟩, by rw [e0, e1, e2, e3]; rfl, hbn⟩
theorem open_tus {fuel : Nat} {a : Option Addr} {len cap : Nat} {d : DataW H} {p : List MemPlace} (hf : DataW.trod enc Try.prog W 0 (fun _ => true) true fuel 23 [.slice a len cap] = some (d, p)) (hb : Rows.uptoBulk d ≤ 1048576) :
    ∃ rs : List TuV, rs.length = len ∧ ListG 4 TuV.cells (fun o => o.b < 256) W a rs ∧ len ≤ 1048576 :=
  open_list 4 TuV.cells (fun o => o.b < 256) Try.underlying23 Try.cellsTu (by decide) (fun _ => rfl) open_tu hf hb
theorem open_cap {fuel : Nat} {t e : TypeId} {a : Option Addr} {len cap : Nat} {x : DataW H × List MemPlace} (ht : Try.prog.underlying t = some (.slice e)) (hf : DataW.trod enc Try.prog W 0 (fun _ => true) true fuel t [.slice a len cap] = some x) : len ≤ cap ∧ cap ≤ 9223372036854775807 := by
  rcases Deep.open_slice ht hf with ⟨hcs, _⟩ | ⟨ad, l, c, m, n, D, Pl, hcs, _, hl, hm, _⟩
  · simp only [List.cons.injEq, Value.slice.injEq, and_true] at hcs
    obtain ⟨rfl, rfl, rfl⟩ := hcs
    exact ⟨Nat.le_refl _, by omega⟩
  · simp only [List.cons.injEq, Value.slice.injEq, and_true] at hcs
    obtain ⟨rfl, rfl, rfl⟩ := hcs
    exact ⟨hl, by unfold maxLen at hm; omega⟩
end
end Go.Proofs.Ytbbhnekdejamiaa
