/-
  PutND in numbers; laws that its walk wants.
-/
import Derived.Test.YtijipfciimcnpaaDoorI8Par1
namespace Go.Proofs.YtijipfciimcnpaaDoor
open Go.RowKit
open I8 (M8)

def rsB (r s o : Bool) : Int := bits .or .i64 (bits .or .i64 (if r then 2147483648 else 0) (if s then 1073741824 else 0)) (if o then 536870912 else 0)
/-- what PutND answers of one of the two kinds -/
def pnE (k V : Int) (x : Nat → Nat) (r s o h : Bool) (m : Nat → Nat) : Int := if (k = 1 ∧ rsB r s o ≠ 0) ∨ (h = false ∧ same6 m (fun _ => 0) = false) then 1 else if tmB V x then 0 else 86
theorem rsB_vals (r s o : Bool) : rsB r s o = 0 ∨ rsB r s o = 536870912 ∨ rsB r s o = 1073741824 ∨ rsB r s o = 1610612736 ∨ rsB r s o = 2147483648 ∨ rsB r s o = 2684354560 ∨ rsB r s o = 3221225472 ∨ rsB r s o = 3758096384 := by
  cases r <;> cases s <;> cases o <;> decide
theorem Tryd.sizeIPm : (Tryd.prog.info? 24).map (·.size) = some 17 := by kernel_rfl
theorem wpList_load_ipm {ops : Array Oper} {rest : List Oper} {o : Oper} {a : Act} {w : World} {Q : Exit → Act → World → Prop} (x : Operand) (ho : o.op = .load 24 x) (O off : Nat) (V : Int) (y : Nat → Nat) (hx : a.eval x = .pointer (some ⟨O, off, none⟩)) (hb : w.rangeAt O off (ipCells V y).toList)
    (hw : Region.wanted o (yielded ops a.tmps) = true) (h : wpList Tryd.prog ops Q rest (a.put o.dst (.agg (ipCells V y))) w) : wpList Tryd.prog ops Q (o :: rest) a w := by
  refine wpList_step fun K hK => ?_
  rw [if_pos hw]
  exact wp_load_mid 24 x ho O off hx (ipCells V y).toList _ hb Tryd.underlying24 rfl Tryd.sizeIPm (hK _ _ h)
theorem NdAt.rip {w : World} {O : Nat} {k V : Int} {x : Nat → Nat} {r s o h : Bool} {m : Nat → Nat} (kk : NdAt w O (ndC k V x r s o h m)) : w.rangeAt O 1 (ipCells V x).toList := by
  intro j v hj
  rw [kk.cell]
  have hl : j < 17 := (List.getElem?_eq_some_iff.1 hj).1
  have : j = 0 ∨ j = 1 ∨ j = 2 ∨ j = 3 ∨ j = 4 ∨ j = 5 ∨ j = 6 ∨ j = 7 ∨ j = 8 ∨ j = 9 ∨ j = 10 ∨ j = 11 ∨ j = 12 ∨ j = 13 ∨ j = 14 ∨ j = 15 ∨ j = 16 := by omega
  rcases this with rfl | rfl | rfl | rfl | rfl | rfl | rfl | rfl | rfl | rfl | rfl | rfl | rfl | rfl | rfl | rfl | rfl <;> exact hj
theorem NdAt.rmc {w : World} {O : Nat} {k V : Int} {x : Nat → Nat} {r s o h : Bool} {m : Nat → Nat} (kk : NdAt w O (ndC k V x r s o h m)) : w.rangeAt O 22 (macC m).toList := by
  intro j v hj
  rw [kk.cell]
  have hl : j < 6 := (List.getElem?_eq_some_iff.1 hj).1
  have : j = 0 ∨ j = 1 ∨ j = 2 ∨ j = 3 ∨ j = 4 ∨ j = 5 := by omega
  rcases this with rfl | rfl | rfl | rfl | rfl | rfl <;> exact hj
def mcL (m : Nat → Nat) : List Nat := (List.range 6).map m
theorem NdAt.sip {w : World} {O : Nat} {k V : Int} {x : Nat → Nat} {r s o h : Bool} {m : Nat → Nat} (kk : NdAt w O (ndC k V x r s o h m)) : Seg .u8 w (some ⟨O, 2, none⟩) (toI (ipL x 16)) := by
  refine .inr ⟨O, 2, rfl, fun i hi => ?_⟩
  have hi' : i < 16 := by rw [toI_len, ipL_len] at hi; exact hi
  rw [toI_getD]
  have h1 := kk.rip (1 + i) (.int .u8 (x i : Nat)) (by rw [ipCells_eq]; simp [Nat.add_comm 1 i, hi'])
  rw [show 2 + i = 1 + (1 + i) by omega, h1]
  simp [ipL, List.getD, hi']
theorem NdAt.smc {w : World} {O : Nat} {k V : Int} {x : Nat → Nat} {r s o h : Bool} {m : Nat → Nat} (kk : NdAt w O (ndC k V x r s o h m)) : Seg .u8 w (some ⟨O, 22, none⟩) (toI (mcL m)) := by
  refine .inr ⟨O, 22, rfl, fun i hi => ?_⟩
  have hi' : i < 6 := by rw [toI_len] at hi; simpa [mcL] using hi
  rw [toI_getD]
  have h1 := kk.rmc i (.int .u8 (m i : Nat)) (by rw [show (macC m).toList = (mcL m).map (fun z => Value.int .u8 (z : Nat)) from rfl]; simp [mcL, hi'])
  rw [h1]
  simp [mcL, List.getD, hi']
theorem parts_one (W : World) (S : Nat → Prop) (N : Nat) (p1 : PV) (h1 : W.cell? ⟨N, 0, none⟩ = some (.slice p1.a p1.bs.length p1.cap)) (s1 : Seg .u8 W p1.a (toI p1.bs)) (hN : ¬ S N)
    (d1 : ∀ z, toI p1.bs ≠ [] → p1.a = some z → ¬ S z.block) : PartsAt W S (some ⟨N, 0, none⟩) [p1] := by
  refine .inr ⟨N, 0, rfl, hN, World.block_lt_of_cell? W _ h1, fun i p hp => ?_⟩
  match i, hp with
  | 0, hp => simp at hp; subst hp; exact ⟨h1, s1, d1⟩
  | i + 1, hp => simp at hp
theorem own_ge {w : World} {B : Nat} {e : TypeId} {v : Value} {n : Nat} {xs : List Value} (h : w.ownsRow B e 1 v n xs) (q : Nat) (hq : v.ownBlock = some q) : B ≤ q := (h.lt q hq).1
/-- the message of a kind: its data -/
def pnD (l : Nat) (x : Nat → Nat) (h : Bool) (m : Nat → Nat) : List Nat := ipL x 16 ++ (if h then [l, 1] ++ mcL m else [])
/-- what PutND leaves -/
def PutRes (w : World) (msg rs er : Int) (d : List Nat) (e : Ending) (w' : World) : Prop := (er ≠ 0 ∧ e = .returned (.tuple #[.agg (mC m8z none 0 0), .int .i64 er])) ∨ (er = 0 ∧ ∃ g, e = .returned (.tuple #[.agg (mC ⟨6, msg, 0, rs, d⟩ (some ⟨g, 0, none⟩) d.length d.length), .int .i64 0]) ∧ w'.ownsRow w.heap.size 5 1 (.slice (some ⟨g, 0, none⟩) d.length d.length) d.length ((toI d).map (Value.int .u8)))
end Go.Proofs.YtijipfciimcnpaaDoor
