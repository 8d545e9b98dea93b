/-
  A script of builders' calls that came in.
-/
import Derived.Test.YtcgfdhmegagjdaaOpenG
import Derived.Test.YtcgfdhmegagjdaaCuts
namespace Go.Proofs.Ytcgfdhmegagjdaa
open Go.RowKit Go.ChangeShapes Go.WideShapes

structure ActV where
  kd : Int
  obj : Int
  at' : Int
  n : Int
  x : Nat
  pa : Option Addr
  np : Nat
  cap : Nat
  ps : List PV
def ActV.cells (o : ActV) : List Value := [.int .i64 o.kd, .int .i64 o.obj, .int .i64 o.at', .int .i64 o.n, .int .u64 (o.x : Int), .slice o.pa o.np o.cap]
structure ActV.ok (W : World) (o : ActV) : Prop where
  hat : o.at' ≤ 9223372036854775807
  hx : o.x < 18446744073709551616
  hnp : o.ps.length = o.np
  hpl : o.np ≤ 1048576
  hp : PartsAt W none_ o.pa o.ps
  hbs : ∀ p ∈ o.ps, p.bs.length ≤ 1048576
  h256 : ∀ p ∈ o.ps, ∀ x ∈ p.bs, x < 256
theorem Try.cellsInt : Try.prog.cellsOf 3 = 1 := by kernel_rfl
theorem Try.cellsU64 : Try.prog.cellsOf 30 = 1 := by kernel_rfl
theorem Try.cellsByte : Try.prog.cellsOf 5 = 1 := by kernel_rfl
theorem Try.cellsBytes : Try.prog.cellsOf 22 = 1 := by kernel_rfl
theorem Try.cellsParts : Try.prog.cellsOf 36 = 1 := by kernel_rfl
theorem Try.cellsAct : Try.prog.cellsOf 49 = 6 := by kernel_rfl
theorem list6 {α : Type} (l : List α) (h : l.length = 6) : ∃ a b c d e f, l = [a, b, c, d, e, f] := by
  match l, h with
  | [a, b, c, d, e, f], _ => exact ⟨a, b, c, d, e, f, rfl⟩
theorem open_u64 {H : Type} {enc : TypeId × Value → H} {W : World} {fuel : Nat} {c : Value} {y : DataW H × List MemPlace}
    (h : DataW.trod enc Try.prog W 0 (fun _ => true) true fuel 30 [c] = some y) : ∃ x : Nat, c = .int .u64 (x : Int) ∧ x < 18446744073709551616 := by
  obtain ⟨a, e0, _, wa⟩ := DataW.trod_int Try.underlying30 h
  simp only [List.cons.injEq, and_true] at e0
  subst e0
  simp [Lit.wf, IntKind.min, IntKind.max, IntKind.bits, IntKind.signed] at wa
  exact ⟨a.toNat, by congr 1; omega, by omega⟩
theorem open_pv {H : Type} {enc : TypeId × Value → H} {W : World} (fuel : Nat) (cs : List Value) (x : DataW H × List MemPlace) (h : DataW.trod enc Try.prog W 0 (fun _ => true) true fuel 22 cs = some x) (hb : Rows.uptoBulk x.1 ≤ 1048576) :
    ∃ p : PV, cs = [.slice p.a p.bs.length p.cap] ∧ (Seg .u8 W p.a (toI p.bs) ∧ p.bs.length ≤ 1048576 ∧ ∀ y ∈ p.bs, y < 256) := by
  obtain ⟨c, rfl⟩ : ∃ c, cs = [c] := by
    rcases Deep.open_slice Try.underlying22 h with ⟨e, _⟩ | ⟨_, _, _, _, _, _, _, e, _⟩
    · exact ⟨_, e⟩
    · exact ⟨_, e⟩
  obtain ⟨a, len, cap, zs, rfl, hr, hcap⟩ := open_rowG Try.underlying22 Try.underlying5 Try.cellsByte h
  obtain ⟨bs, hl, hs, h1, h2, h256⟩ := hr.bytes
  exact ⟨⟨a, cap, bs⟩, by rw [hl], hs, by show bs.length ≤ _; omega, h256⟩
theorem open_act {H : Type} {enc : TypeId × Value → H} {W : World} (fuel : Nat) (cs : List Value) (x : DataW H × List MemPlace)
    (h : DataW.trod enc Try.prog W 0 (fun _ => true) true fuel 49 cs = some x) (hbulk : Rows.uptoBulk x.1 ≤ 1048576) : ∃ o : ActV, cs = o.cells ∧ o.ok W := by
  obtain ⟨xs, n, _, rfl, hl, hlen, hf⟩ := DataW.trod_struct Try.underlying49 h
  rw [Try.cellsAct] at hl
  obtain ⟨c0, c1, c2, c3, c4, c5, rfl⟩ := list6 cs hl
  obtain ⟨y0, y1, y2, y3, y4, y5, rfl⟩ := list6 xs hlen
  have f0 := hf 0 _ rfl
  have f1 := hf 1 _ rfl
  have f2 := hf 2 _ rfl
  have f3 := hf 3 _ rfl
  have f4 := hf 4 _ rfl
  have f5 := hf 5 _ rfl
  simp [Try.cellsInt, Try.cellsU64, Try.cellsParts] at f0 f1 f2 f3 f4 f5
  obtain ⟨kd, rfl, _⟩ := open_i64G f0
  obtain ⟨obj, rfl, _⟩ := open_i64G f1
  obtain ⟨at', rfl, _, ha⟩ := open_i64G f2
  obtain ⟨nn, rfl, _⟩ := open_i64G f3
  obtain ⟨xx, rfl, hx⟩ := open_u64 f4
  simp only [List.map_cons, List.map_nil, Rows.uptoBulk, Rows.uptoBulkAll] at hbulk
  obtain ⟨pa, np, cap, rfl⟩ : ∃ pa np cap, c5 = .slice pa np cap := by
    rcases Deep.open_slice Try.underlying36 f5 with ⟨e, _⟩ | ⟨_, _, _, _, _, _, _, e, _⟩
    · simp only [List.cons.injEq, and_true] at e; exact ⟨_, _, _, e⟩
    · simp only [List.cons.injEq, and_true] at e; exact ⟨_, _, _, e⟩
  obtain ⟨ps, hpl, hps, hp1⟩ := open_list (d := y5.1) (p := y5.2) 1 (fun p : PV => [.slice p.a p.bs.length p.cap]) (fun p => Seg .u8 W p.a (toI p.bs) ∧ p.bs.length ≤ 1048576 ∧ ∀ y ∈ p.bs, y < 256) Try.underlying36 Try.cellsBytes (by decide) (fun _ => rfl) open_pv f5 (by omega)
  refine ⟨⟨kd, obj, at', nn, xx, pa, np, cap, ps⟩, rfl, ⟨ha, hx, hpl, hp1, ?_, ?_, ?_⟩⟩
  · rcases hps with e | ⟨b, off, e, hb, hc⟩
    · exact .inl e
    · refine .inr ⟨b, off, e, fun s => s.elim, hb, fun i p hp => ⟨?_, (hc i p hp).1.1, fun _ _ _ s => s.elim⟩⟩
      have := (hc i p hp).2 0 (by decide)
      simpa using this
  · intro p hp
    obtain ⟨i, hi, rfl⟩ := List.getElem_of_mem hp
    rcases hps with e | ⟨b, off, e, hb, hc⟩
    · simp [e] at hi
    · exact (hc i _ (by simp [hi])).1.2.1
  · intro p hp
    obtain ⟨i, hi, rfl⟩ := List.getElem_of_mem hp
    rcases hps with e | ⟨b, off, e, hb, hc⟩
    · simp [e] at hi
    · exact (hc i _ (by simp [hi])).1.2.2
def Acts (w : World) (a : Option Addr) (ops : List ActV) : Prop := ListG 6 ActV.cells (ActV.ok w) w a ops
theorem open_acts {H : Type} {enc : TypeId × Value → H} {W : World} {a : Option Addr} {len cap : Nat} {d : DataW H} {p : List MemPlace} {fuel : Nat}
    (h : DataW.trod enc Try.prog W 0 (fun _ => true) true fuel 44 [.slice a len cap] = some (d, p)) (hbulk : Rows.uptoBulk d ≤ 1048576) :
    ∃ ops : List ActV, ops.length = len ∧ Acts W a ops ∧ len ≤ 1048576 :=
  open_list 6 ActV.cells (ActV.ok W) Try.underlying44 Try.cellsAct (by decide) (fun _ => rfl) open_act h hbulk
end Go.Proofs.Ytcgfdhmegagjdaa
