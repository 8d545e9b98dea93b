/-
  A port that a script plays with: what holds of it at every round.
-/
import Derived.Test.YtaicmpkgcppplaaRingMath
import Derived.Test.YtaicmpkgcppplaaOpenOpsR
namespace Go.Proofs.Ytaicmpkgcppplaa
open Go.RowKit

theorem das {s : PS} (h : PInv s) (da : Nat → List Nat) : PInv { s with da := da } := ⟨h.nd, h.lt, h.fl, h.p1, h.p2, h.p3, h.p5, h.pr, h.ln⟩
/-- what holds of the port at every round -/
structure At (w0 wr : World) (P gb gf gr gt : Nat) (p sz : Nat) (s : PS) : Prop where
  port : PortAt wr P gb gf gr gt s
  inv : PInv s
  pool : s.pool = p
  size : s.size = sz
  bel : Below w0.heap.size w0 wr
  blk : ∀ q, PB P gb gf gr gt s q → w0.heap.size ≤ q
theorem At.next {w0 wr w' : World} {P gb gf gr gt p sz : Nat} {s s' : PS} (h : At w0 wr P gb gf gr gt p sz s) (k : Played wr w' P gb gf gr gt s s') : At w0 w' P gb gf gr gt p sz s' :=
  ⟨k.port, k.inv, k.pool.trans h.pool, k.size.trans h.size, h.bel.trans (k.ch.below h.blk h.bel.size), fun q hq => (k.blk q hq).elim (h.blk q) (fun e => by have := h.bel.size; omega)⟩
theorem At.below {w0 wr w' : World} {P gb gf gr gt p sz : Nat} {s : PS} (h : At w0 wr P gb gf gr gt p sz s) (hb : Below wr.heap.size wr w') : At w0 w' P gb gf gr gt p sz s := h.next (.none h.port h.inv hb)

theorem release_y {w : World} {P gb gf gr gt : Nat} {s : PS} (h : PortAt w P gb gf gr gt s) (hi : PInv s) (k : Nat) (hk : k < s.pool) (h4 : s.pl k = 4) :
    Calls Try.prog 16 #[.pointer (some ⟨P, 0, none⟩), .int .i64 k] w fun e w' => e = .returned (.int .i64 0) ∧ ∃ s', Played w w' P gb gf gr gt s s' := by
  have he0 : hE s (k : Int) = 0 := hE_held hk h4
  refine (release_t h hi (k : Int)).mono ?_
  rintro e w' ⟨rfl, ⟨hne, _⟩ | ⟨k', _, _, _, _, hp⟩⟩
  · exact absurd he0 hne
  · exact ⟨by rw [he0], _, hp⟩
/-- a buffer that is held is written into, at a place -/
theorem At.write {w0 wr : World} {P gb gf gr gt p sz : Nat} {s : PS} (h : At w0 wr P gb gf gr gt p sz s) (i b : Nat) (hi : i < s.pool) (hb : s.bb i = some b) (j x : Nat) (hj : j < sz) (hx : x < 256) :
    At w0 (wr.setCell ⟨b, j, none⟩ (.int .u8 (x : Int))) P gb gf gr gt p sz { s with da := updF s.da i ((s.da i).set j x) } ∧ (∃ z : Nat, (s.da i)[j]? = some z ∧ wr.cell? ⟨b, j, none⟩ = some (.int .u8 (z : Int))) ∧ wr.frozen? ⟨b, j, none⟩ = false := by
  have hr := h.port.row i b hi hb
  have hdl := h.port.dl i hi
  have hsz := h.size
  obtain ⟨hst, hgr⟩ := hr.stored j (.int .u8 (x : Int))
  have e : ((toI (s.da i)).map (Value.int .u8)).set j (.int .u8 (x : Int)) = (toI ((s.da i).set j x)).map (Value.int .u8) := by simp [toI, List.map_set]
  rw [e] at hst
  have kk : Ch (fun q => q = b) wr (wr.setCell ⟨b, j, none⟩ (.int .u8 (x : Int))) := (Ch.refl _ wr).set _ _ rfl
  have hp := h.port.setDa i b hi hb kk ((s.da i).set j x) (by rw [List.length_set]; exact hdl) (fun y hy => by
    rcases List.mem_or_eq_of_mem_set hy with h1 | h1
    · exact h.port.d256 i hi y h1
    · omega) hst
  refine ⟨⟨hp, das h.inv _, h.pool, h.size, h.bel.trans (kk.below (fun q e => by rw [e]; exact h.blk b (.inr (.inr (.inr (.inr (.inr ⟨i, hi, hb⟩)))))) h.bel.size), h.blk⟩, ?_, hr.frozenAt j⟩
  have hjl : j < (s.da i).length := by omega
  refine ⟨(s.da i)[j], by simp [hjl], ?_⟩
  rw [hr.cellAt j (by omega)]
  simp [toI, hjl]

theorem At.old {w0 wr : World} {P gb gf gr gt p sz : Nat} {s : PS} (h : At w0 wr P gb gf gr gt p sz s) (q : Nat) (hq : PB P gb gf gr gt s q) : q < wr.heap.size := by
  obtain ⟨_, _, l1⟩ := h.port.lf
  obtain ⟨_, _, l2⟩ := h.port.lr
  obtain ⟨_, _, l3⟩ := h.port.lt
  rcases hq with rfl | rfl | rfl | rfl | rfl | ⟨j, hj, hjb⟩
  · exact h.port.Pl
  · exact h.port.bl
  · exact (l1.row.lt _ rfl).2
  · exact (l2.row.lt _ rfl).2
  · exact (l3.row.lt _ rfl).2
  · exact ((h.port.row j q hj hjb).lt q rfl).2
/-- a step's bytes do not lie in the port -/
theorem At.apart {w0 wr : World} {P gb gf gr gt p sz : Nat} {s : PS} (h : At w0 wr P gb gf gr gt p sz s) {oa : Option Addr} {fr : List Nat} (hs : Seg .u8 w0 oa (toI fr)) : ∀ x, fr ≠ [] → oa = some x → x.block ≠ P ∧ x.block ≠ gb := fun x hx e => by
  rcases hs.lt with h1 | ⟨b', o', e', hb'⟩
  · rw [toI_len] at h1; exact absurd (List.eq_nil_of_length_eq_zero h1) hx
  · rw [e] at e'
    simp only [Option.some.injEq] at e'
    subst e'
    have u1 := h.blk P (.inl rfl)
    have u2 := h.blk gb (.inr (.inl rfl))
    exact ⟨by show b' ≠ _; omega, by show b' ≠ _; omega⟩
/-- the cells of a step of the script -/
theorem ops_at {w wr : World} {a : Option Addr} {ops : List OpV} (h : Ops w a ops) (hb : Below w.heap.size w wr) (k : Nat) (hk : k < ops.length) : ∃ (ob off : Nat) (kd : Int) (two : Bool) (i n : Int) (oa : Option Addr) (oc : Nat) (fr : List Nat), a = some ⟨ob, off, none⟩ ∧ ob < w.heap.size ∧ OpV.ok w ⟨kd, two, i, n, oa, oc, fr⟩ ∧ ops[k]? = some ⟨kd, two, i, n, oa, oc, fr⟩ ∧
    wr.cell? ⟨ob, off + k * 5, none⟩ = some (.int .i64 kd) ∧ wr.cell? ⟨ob, off + k * 5 + 1, none⟩ = some (.bool two) ∧ wr.cell? ⟨ob, off + k * 5 + 2, none⟩ = some (.int .i64 i) ∧ wr.cell? ⟨ob, off + k * 5 + 3, none⟩ = some (.int .i64 n) ∧ wr.cell? ⟨ob, off + k * 5 + 4, none⟩ = some (.slice oa fr.length oc) := by
  obtain ⟨o, hok⟩ : ∃ o, ops[k]? = some o := ⟨ops[k], by simp [hk]⟩
  obtain ⟨hov, ob, off, rfl, hobl, hcs⟩ := ListG.at h k o hok
  obtain ⟨kd, two, i1, n1, oa, oc, fr⟩ := o
  exact ⟨ob, off, kd, two, i1, n1, oa, oc, fr, rfl, hobl, hov, hok, (hb.cell (p := ⟨ob, off + k * 5, none⟩) hobl).trans (hcs 0 (by decide)), (hb.cell (p := ⟨ob, off + k * 5 + 1, none⟩) hobl).trans (hcs 1 (by decide)), (hb.cell (p := ⟨ob, off + k * 5 + 2, none⟩) hobl).trans (hcs 2 (by decide)), (hb.cell (p := ⟨ob, off + k * 5 + 3, none⟩) hobl).trans (hcs 3 (by decide)), (hb.cell (p := ⟨ob, off + k * 5 + 4, none⟩) hobl).trans (hcs 4 (by decide))⟩
end Go.Proofs.Ytaicmpkgcppplaa
