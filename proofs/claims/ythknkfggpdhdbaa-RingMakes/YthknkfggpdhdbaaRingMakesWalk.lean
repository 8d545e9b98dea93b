/-
  The walk of RingMakes: it answers true, whatever it is handed, and writes nothing that was there.
-/
import Derived.Test.YthknkfggpdhdbaaK3i
namespace Go.Proofs.Ythknkfggpdhdbaa
open Go.RowKit

/-- whatever the four numbers are -/
theorem made_any (w : World) (rx tx pool size : Int) :
    Calls Try.prog 10 #[.int .i64 rx, .int .i64 tx, .int .i64 pool, .int .i64 size] w fun e w' => ∃ v, e = .returned (.tuple #[.agg v.cells, .bool true]) ∧ SideOk w.heap.size w' v ∧ Below w.heap.size w w' ∧ v.W = [] ∧ v.r.now ≤ 8192 := by
  by_cases h : nOut rx tx pool size
  · exact made_no w rx tx pool size h
  · unfold nOut at h
    obtain ⟨a, rfl⟩ : ∃ a : Nat, rx = (a : Int) := ⟨rx.toNat, by omega⟩
    obtain ⟨b, rfl⟩ : ∃ b : Nat, tx = (b : Int) := ⟨tx.toNat, by omega⟩
    obtain ⟨c, rfl⟩ : ∃ c : Nat, pool = (c : Int) := ⟨pool.toNat, by omega⟩
    obtain ⟨d, rfl⟩ : ∃ d : Nat, size = (d : Int) := ⟨size.toNat, by omega⟩
    refine (made_yes w a b c d (by omega) (by omega) (by omega) (by omega)).mono ?_
    rintro e w' ⟨v, h1, h2, h3, h4, h5, _⟩
    exact ⟨v, h1, h2, h3, h4, h5⟩
end Go.Proofs.Ythknkfggpdhdbaa
namespace Go.Proofs.Ythknkfggpdhdbaa.ringMakes
open Go.RowKit
set_option maxRecDepth 100000 in
set_option maxHeartbeats 1600000 in
theorem walk (rx tx pool size : Int) (w : World) (_h0 : (Lit.int .i64 rx).wf = true) (_h1 : (Lit.int .i64 tx).wf = true) (_h2 : (Lit.int .i64 pool).wf = true) (_h3 : (Lit.int .i64 size).wf = true) :
    Calls Try.prog 3 #[.int .i64 rx, .int .i64 tx, .int .i64 pool, .int .i64 size] w fun e w' => e = .returned (.bool true) ∧ Below w.heap.size w w' := by
  have Q1 : Hid _ := started_any w
  have Q2 : Hid (∀ x, Calls Try.prog 10 #[.int .i64 rx, .int .i64 tx, .int .i64 pool, .int .i64 size] x fun e w' => ∃ v, e = .returned (.tuple #[.agg v.cells, .bool true]) ∧ SideOk x.heap.size w' v ∧ Below x.heap.size x w' ∧ v.W = [] ∧ v.r.now ≤ 8192) := fun x => made_any x rx tx pool size
  go_enter Try.func3, Try.ntmps3
  go_wp2_with fail
  refine Calls.mono Q1.out ?_
  rintro e w1 ⟨rfl, hb1⟩
  have HB1 : Hid _ := hb1
  clear Q1 hb1
  go_wp2_with fail
  refine Calls.mono (Q2.out w1) ?_
  rintro e w2 ⟨v, rfl, ok2, hb2, _, _⟩
  have HB2 : Hid (Below w.heap.size w w2) := HB1.out.trans (hb2.mono HB1.out.size)
  have HOK : Hid _ := ok2
  have hz : (w2.alloc (.cells #[.pointer none, .int .i64 0, .int .i64 0, .int .i64 0, .slice none 0 0, .int .i64 0, .slice none 0 0] 29)).heap[w2.heap.size]? = some (.cells zS 29 (0, 0)) := heap_alloc_new _ _
  clear Q2 ok2 hb2
  go_wp2_with (first | (refine wpList_store_sd (.tmp 10) (.tmp 19) rfl rfl w2.heap.size zS rfl v rfl rfl hz rfl ?_))
  intro w3 hbox3 k3
  have h0a : Below w2.heap.size w2 (w2.alloc (.cells #[.pointer none, .int .i64 0, .int .i64 0, .int .i64 0, .slice none 0 0, .int .i64 0, .slice none 0 0] 29)) := (Below.refl _ _).alloc (Nat.le_refl _) _
  have b23 : Below w2.heap.size w2 w3 := h0a.trans (k3.below (fun q e => by have e' : q = w2.heap.size := e; omega) h0a.size)
  have HB3 : Hid (Below w.heap.size w w3) := HB2.out.trans (b23.mono HB2.out.size)
  have Q3 : Hid _ := told_any w1.heap.size w3 v (HOK.out.below b23)
  clear hz h0a k3 b23
  go_wp2_with (first | (refine wpList_load_sd (.tmp 10) rfl w2.heap.size v rfl hbox3 rfl ?_))
  refine Calls.mono Q3.out ?_
  rintro e w4 ⟨rfl, hb4⟩
  have HB4 : Hid (Below w.heap.size w w4) := HB3.out.trans (hb4.mono HB3.out.size)
  clear Q3 hb4 hbox3
  go_wp2
  go_ret
  exact ⟨rfl, HB4.out⟩
end Go.Proofs.Ythknkfggpdhdbaa.ringMakes
