/-
  Proved: for all bytes and all turns, where what is read holds together at most 1048576 values, Ip4Again answers true and leaves its arguments as they were: one buffer, whose bytes are changed in place between two calls: what is read, whether it is canonical, the options that its bytes are, and what Hop leaves are the document's of what it holds now; the lists of options that were handed out stay, each with room of its own; what lies behind the buffer stays. Conditions: that bound; the package-level table ip4.widths starts as the program's text lays it (the card ties it); the card speaks of the pruned copy of the project.
-/
import Derived.Test.YtdinhgfkpjaipaaDoorCards
import Derived.Test.YtdinhgfkpjaipaaDoorTie
import Derived.WalkKit
import Derived.ProofKit
import Derived.OpenShut
import Derived.ShutString
import Derived.ChangeOld
import Derived.Below
import Derived.Deep.DeepHandedRow
import Derived.Lib.LaidTab
import Derived.Test.YtdinhgfkpjaipaaDoorKDkA
import Derived.Test.YtdinhgfkpjaipaaDoorIp4AgainWalk
namespace Go.Proofs.YtdinhgfkpjaipaaDoor.ip4Again
open Go.ChangeShapes Go.WideShapes Go.ChangeAt Go.RowKit
set_option linter.unusedVariables false

theorem own : ownKnob Tryd.prog.godebug = none := by kernel_rfl
theorem laidOut : laidOutB Tryd.prog = true := by kernel_rfl
theorem gTab : Tryd.prog.globalNamed "weir/ip4.widths" = some 0 := by kernel_rfl
theorem gTabType : (Tryd.prog.globals[0]?).map (·.type) = some 117 := by kernel_rfl
theorem cellsArr : Tryd.prog.cellsOf 117 = 14 := by kernel_rfl
theorem cellsInt : Tryd.prog.cellsOf 3 = 1 := by kernel_rfl
theorem table {W : World} (h : laidMetH Tryd.prog Rows.ip4AgainRow.laid W) : Lib.TabIs Tryd.prog W "weir/ip4.widths" .i64 [4, 4, 8, 16, 16, 1, 1, 1, 13, 8, 8, 16, 32, 32] :=
  Lib.tabIs_of_head (rest := []) gTab gTabType Tryd.underlying117 Tryd.underlying3 cellsInt cellsArr h
theorem wid {W : World} (h : laidMetH Tryd.prog Rows.ip4AgainRow.laid W) : Wid W := by
  intro j v hv
  have hj : j < 14 := (List.getElem?_eq_some_iff.1 hv).1
  rcases I4.lt20 (show j < 20 by omega) with rfl | rfl | rfl | rfl | rfl | rfl | rfl | rfl | rfl | rfl | rfl | rfl | rfl | rfl | rfl | rfl | rfl | rfl | rfl | rfl
  · have e := (table h).cell gTab 0 (by decide)
    rw [← hv]; exact e
  · have e := (table h).cell gTab 1 (by decide)
    rw [← hv]; exact e
  · have e := (table h).cell gTab 2 (by decide)
    rw [← hv]; exact e
  · have e := (table h).cell gTab 3 (by decide)
    rw [← hv]; exact e
  · have e := (table h).cell gTab 4 (by decide)
    rw [← hv]; exact e
  · have e := (table h).cell gTab 5 (by decide)
    rw [← hv]; exact e
  · have e := (table h).cell gTab 6 (by decide)
    rw [← hv]; exact e
  · have e := (table h).cell gTab 7 (by decide)
    rw [← hv]; exact e
  · have e := (table h).cell gTab 8 (by decide)
    rw [← hv]; exact e
  · have e := (table h).cell gTab 9 (by decide)
    rw [← hv]; exact e
  · have e := (table h).cell gTab 10 (by decide)
    rw [← hv]; exact e
  · have e := (table h).cell gTab 11 (by decide)
    rw [← hv]; exact e
  · have e := (table h).cell gTab 12 (by decide)
    rw [← hv]; exact e
  · have e := (table h).cell gTab 13 (by decide)
    rw [← hv]; exact e
  · omega
  · omega
  · omega
  · omega
  · omega
  · omega
set_option maxRecDepth 100000 in
theorem contract (H : Type) (enc : TypeId × Value → H) (W : World) (base : Nat) (args : Array Value) (ds gs : List (DataW H)) (before : List MemPlace)
    (hval : ∀ (j : Nat) t v, Tryd.f16.params[j]? = some t → args[j]? = some v → Value.okWide Tryd.prog W .any base t v)
    (hW : DataW.Whole enc Tryd.prog Tryd.f16.params.toList Rows.ip4AgainSpec.vars false W args.toList ds gs before) (hL : laidMetH Tryd.prog Rows.ip4AgainRow.laid W) (hk : Rows.uptoSmall H (ds ++ gs) = true) :
    Calls Tryd.prog 16 args W fun e W' => ∃ v, e = .returned v ∧ Rows.ip4AgainSpec.post enc Tryd.prog Tryd.f16 false true false false W args v W' := by
  have hwid := wid hL
  have hW' := hW
  obtain ⟨p, q, hA0, hV, rfl, hfz, hnd⟩ := hW
  have hA : DataW.TrodAll enc Tryd.prog W 0 (fun _ => true) true Tryd.f16.params.toList args.toList ds p := hA0
  rw [Tryd.params16] at hA hval
  obtain ⟨v0, vs0, d0, ds0, p0, q0, hargs, rfl, rfl, h0, r0⟩ := trodAll_cons hA
  obtain ⟨v1, vs1, d1, ds1, p1, q1, rfl, rfl, rfl, h1, r1⟩ := trodAll_cons r0
  obtain ⟨rfl, rfl, rfl⟩ := trodAll_nil r1
  obtain rfl : args = #[v0, v1] := by cases args; simp_all
  obtain ⟨rfl, rfl⟩ := trodVars_none hV
  have hbulk := bulk_of hk
  simp only [List.append_nil, Rows.uptoBulkAll] at hbulk
  obtain ⟨a0, len0, cap0, rfl⟩ := okWide_slice Tryd.underlying26 (hval 0 26 v0 rfl rfl)
  have k0 := h0
  have lt0 : ∀ x ∈ p0, x.block < W.heap.size := by obtain ⟨m, hm⟩ := k0; exact DataW.trod_lt m _ _ _ hm
  obtain ⟨z0, w0, hc0⟩ : ∃ zs, IsRow .u8 W a0 len0 cap0 zs ∧ cap0 ≤ 1048576 := by
    obtain ⟨fuel, hf⟩ := h0
    obtain ⟨a', l', c', zs, e, q1, q2⟩ := open_bytes hf
    simp [Value.cells] at e
    obtain ⟨rfl, rfl, rfl⟩ := e
    exact ⟨zs, q1, Nat.le_trans q2 (by show Rows.uptoBulk d0 ≤ 1048576; omega)⟩
  obtain ⟨a1, len1, cap1, rfl⟩ := okWide_slice Tryd.underlying57 (hval 1 57 v1 rfl rfl)
  have k1 := h1
  have lt1 : ∀ x ∈ p1, x.block < W.heap.size := by obtain ⟨m, hm⟩ := k1; exact DataW.trod_lt m _ _ _ hm
  obtain ⟨rs1, hl1, w1, hn1⟩ : ∃ rs : List Tn, List.length rs = len1 ∧ ListG 2 Tn.cells (fun _ => True) W a1 rs ∧ len1 ≤ 1048576 := by
    obtain ⟨fuel, hf⟩ := h1
    exact open_turns hf (by omega)
  clear hA0
  refine (walk W hwid a0 len0 cap0 z0 w0 hc0 a1 len1 cap1 rs1 hl1 w1 hn1).mono fun e W' ⟨he, bel⟩ => ?_
  subst he
  exact ⟨_, rfl, _, _, _, [], _, [], hW', trodAll_mk1 (shut_bool Tryd.underlying4 _), (trodAll_cons_mk (Below.trod laidOut (by kernel_rfl) (of_decide_eq_true (by kernel_rfl)) k0 bel lt0) (trodAll_cons_mk (Below.trod laidOut (by kernel_rfl) (of_decide_eq_true (by kernel_rfl)) k1 bel lt1) trodAll_mk0)), rfl, bel.frame _, fun h => by cases h⟩

noncomputable def laidWorld (os : Os) : World :=
  { World.holding Tryd.prog os ⟨#[], #[], []⟩ with heap := (World.holding Tryd.prog os ⟨#[], #[], []⟩).heap.modify 0 fun
      | .cells _ t frozen => .cells #[.int .i64 4, .int .i64 4, .int .i64 8, .int .i64 16, .int .i64 16, .int .i64 1, .int .i64 1, .int .i64 1, .int .i64 13, .int .i64 8, .int .i64 8, .int .i64 16, .int .i64 32, .int .i64 32] t frozen
      | o => o }
theorem laid_met (os : Os) : laidMet Tryd.prog Rows.ip4AgainRow.laid ((laidWorld os).forCall (fun _ _ => 0) ⟨#[], #[.slice none 0 0, .slice none 0 0], []⟩).memory :=
  laidMet_of_run' 8 (by kernel_rfl) (by kernel_rfl)
theorem reads (os : Os) {H : Type} (enc : TypeId × Value → H) : ∃ places, DataW.whole enc Tryd.prog ((laidWorld os).forCall (fun _ _ => 0) ⟨#[], #[.slice none 0 0, .slice none 0 0], []⟩).memory Tryd.f16.params.toList Rows.ip4AgainSpec.vars false (#[.slice none 0 0, .slice none 0 0] : Array Value).toList 8 = some ([.nil, .nil], [], places) :=
  ⟨[], by kernel_rfl⟩
set_option maxRecDepth 100000 in
theorem lifted (os : Os) (started : os.Started) (H : Type) (enc : TypeId × Value → H) (F : Stop.Interp) :
    ReturnsInHanded {} Tryd.checked os 16 .any ((Rows.OpenSpec.upto Rows.ip4AgainSpec).preRow enc Tryd.prog Tryd.f16 Rows.ip4AgainUptoRow.domain false Rows.ip4AgainUptoRow.laid) (((Rows.OpenSpec.upto Rows.ip4AgainSpec).at F).post enc Tryd.prog Tryd.f16 false true false false) := by
  obtain ⟨places, hx⟩ := reads os enc
  refine returnsInHanded_of_row (C := Tryd.checked) (s := (Rows.OpenSpec.upto Rows.ip4AgainSpec)) own started (by kernel_rfl) Tryd.func16
    (witness_row_at (enc := enc) (C := Tryd.checked) false (laidWorld os) #[.slice none 0 0, .slice none 0 0] rfl (by kernel_rfl) (by kernel_rfl) (by kernel_rfl)
      (OpenSpec.preRow_of_cond 8 hx (by kernel_rfl) (fun k hk => by cases hk; kernel_rfl) (by kernel_rfl) (laid_met os))) ?_
  intro W base args ds gs before hval hW _ hcond _ hL _ _
  exact contract H enc W base args ds gs before hval hW hL (hcond _ rfl)

theorem said : Rows.Ip4AgainUptoSaid :=
  OpenClaim.holds_of_cond 16 Tryd.f16 rfl rfl rfl rfl rfl rfl rfl ⟨rfl, rfl, rfl, rfl, rfl⟩ rfl rfl rfl rfl rfl (by kernel_rfl) Tryd.func16 (by kernel_rfl)
    (of_decide_eq_true (by kernel_rfl)) (by unfold Func.isWrapper; first | (rw [if_pos (by decide +kernel)]; kernel_rfl) | (rw [if_neg (by decide +kernel)]; exact ⟨rfl, rfl⟩))
    (fun os started H enc _ F => by rw [OpenClaim.pre_eq_preRow]; exact lifted os started H enc F)
theorem plain (f : FuncId) (fn : Func) (hf : Tryd.pinned.checked.prog.funcNamed "weir/weirlaw6.Ip4Again" = some f) (hfn : Tryd.pinned.checked.prog.funcs[f]? = some fn) :
    false = Tryd.pinned.checked.prog.looks [] ∧ ∀ (j : Nat) t, fn.params[j]? = some t → Tryd.pinned.checked.prog.wantsStandIn t = false := by
  obtain rfl : f = 16 := Option.some.inj ((show Tryd.prog.funcNamed "weir/weirlaw6.Ip4Again" = some 16 by kernel_rfl).symm.trans hf) |>.symm
  obtain rfl : fn = Tryd.f16 := (Option.some.inj (Tryd.func16.symm.trans hfn)).symm
  refine ⟨by kernel_rfl, fun j t ht => ?_⟩
  rw [Tryd.params16] at ht
  have ht' : t = 26 ∨ t = 57 := by simpa using Array.mem_of_getElem? ht
  rcases ht' with rfl | rfl
  · exact (show Tryd.prog.wantsStandIn 26 = false by kernel_rfl)
  · exact (show Tryd.prog.wantsStandIn 57 = false by kernel_rfl)
end Go.Proofs.YtdinhgfkpjaipaaDoor.ip4Again
namespace Go.Proofs.YtdinhgfkpjaipaaDoor
theorem ip4Again_card : Rows.Ip4AgainUptoCardSaid :=
  Claim7.holds_tied_plain_at .later [] _ _ _ _ ip4Again.said (fun _ h => by cases h) (by kernel_rfl) (fun _ h => by cases h) ip4AgainUpto_row_tie rfl ⟨rfl, rfl⟩ (by kernel_rfl) rfl ip4Again.plain (by kernel_rfl)
#print axioms ip4Again_card
end Go.Proofs.YtdinhgfkpjaipaaDoor
