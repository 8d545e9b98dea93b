/-
  Proved: for every script of calls, where what is read holds together at most 1048576 values, Ip4Plays answers true and leaves its argument as it was: every call of the script, in every order, answers as the document says, and what was handed in stays, with what lies behind it. Conditions: that bound; the package-level table ip4.widths starts as the program's text lays it (the card ties it); the card speaks of the pruned copy of the project.
-/
import Derived.Test.YtdinhgfkpjaipaaDoorCards
import Derived.Test.YtdinhgfkpjaipaaDoorTie
import Derived.WalkKit
import Derived.ProofKit
import Derived.OpenShut
import Derived.ShutString
import Derived.ChangeOld
import Derived.Below
import Derived.Deep.DeepHandedRow
import Derived.Lib.LaidTab
import Derived.Test.YtdinhgfkpjaipaaDoorKRc
import Derived.Test.YtdinhgfkpjaipaaDoorIp4PlaysWalk
namespace Go.Proofs.YtdinhgfkpjaipaaDoor.ip4Plays
open Go.ChangeShapes Go.WideShapes Go.ChangeAt Go.RowKit
set_option linter.unusedVariables false

theorem own : ownKnob Tryd.prog.godebug = none := by kernel_rfl
theorem laidOut : laidOutB Tryd.prog = true := by kernel_rfl
theorem gTab : Tryd.prog.globalNamed "weir/ip4.widths" = some 0 := by kernel_rfl
theorem gTabType : (Tryd.prog.globals[0]?).map (·.type) = some 117 := by kernel_rfl
theorem cellsArr : Tryd.prog.cellsOf 117 = 14 := by kernel_rfl
theorem cellsInt : Tryd.prog.cellsOf 3 = 1 := by kernel_rfl
theorem table {W : World} (h : laidMetH Tryd.prog Rows.ip4PlaysRow.laid W) : Lib.TabIs Tryd.prog W "weir/ip4.widths" .i64 [4, 4, 8, 16, 16, 1, 1, 1, 13, 8, 8, 16, 32, 32] :=
  Lib.tabIs_of_head (rest := []) gTab gTabType Tryd.underlying117 Tryd.underlying3 cellsInt cellsArr h
theorem wid {W : World} (h : laidMetH Tryd.prog Rows.ip4PlaysRow.laid W) : Wid W := by
  intro j v hv
  have hj : j < 14 := (List.getElem?_eq_some_iff.1 hv).1
  rcases I4.lt20 (show j < 20 by omega) with rfl | rfl | rfl | rfl | rfl | rfl | rfl | rfl | rfl | rfl | rfl | rfl | rfl | rfl | rfl | rfl | rfl | rfl | rfl | rfl
  · have e := (table h).cell gTab 0 (by decide)
    rw [← hv]; exact e
  · have e := (table h).cell gTab 1 (by decide)
    rw [← hv]; exact e
  · have e := (table h).cell gTab 2 (by decide)
    rw [← hv]; exact e
  · have e := (table h).cell gTab 3 (by decide)
    rw [← hv]; exact e
  · have e := (table h).cell gTab 4 (by decide)
    rw [← hv]; exact e
  · have e := (table h).cell gTab 5 (by decide)
    rw [← hv]; exact e
  · have e := (table h).cell gTab 6 (by decide)
    rw [← hv]; exact e
  · have e := (table h).cell gTab 7 (by decide)
    rw [← hv]; exact e
  · have e := (table h).cell gTab 8 (by decide)
    rw [← hv]; exact e
  · have e := (table h).cell gTab 9 (by decide)
    rw [← hv]; exact e
  · have e := (table h).cell gTab 10 (by decide)
    rw [← hv]; exact e
  · have e := (table h).cell gTab 11 (by decide)
    rw [← hv]; exact e
  · have e := (table h).cell gTab 12 (by decide)
    rw [← hv]; exact e
  · have e := (table h).cell gTab 13 (by decide)
    rw [← hv]; exact e
  · omega
  · omega
  · omega
  · omega
  · omega
  · omega
set_option maxRecDepth 100000 in
theorem contract (H : Type) (enc : TypeId × Value → H) (W : World) (base : Nat) (args : Array Value) (ds gs : List (DataW H)) (before : List MemPlace)
    (hval : ∀ (j : Nat) t v, Tryd.f15.params[j]? = some t → args[j]? = some v → Value.okWide Tryd.prog W .any base t v)
    (hW : DataW.Whole enc Tryd.prog Tryd.f15.params.toList Rows.ip4PlaysSpec.vars false W args.toList ds gs before) (hL : laidMetH Tryd.prog Rows.ip4PlaysRow.laid W) (hk : Rows.uptoSmall H (ds ++ gs) = true) :
    Calls Tryd.prog 15 args W fun e W' => ∃ v, e = .returned v ∧ Rows.ip4PlaysSpec.post enc Tryd.prog Tryd.f15 false true false false W args v W' := by
  have hwid := wid hL
  have hW' := hW
  obtain ⟨p, q, hA0, hV, rfl, hfz, hnd⟩ := hW
  have hA : DataW.TrodAll enc Tryd.prog W 0 (fun _ => true) true Tryd.f15.params.toList args.toList ds p := hA0
  rw [Tryd.params15] at hA hval
  obtain ⟨v0, vs0, d0, ds0, p0, q0, hargs, rfl, rfl, h0, r0⟩ := trodAll_cons hA
  obtain ⟨rfl, rfl, rfl⟩ := trodAll_nil r0
  obtain rfl : args = #[v0] := by cases args; simp_all
  obtain ⟨rfl, rfl⟩ := trodVars_none hV
  have hbulk := bulk_of hk
  simp only [List.append_nil, Rows.uptoBulkAll] at hbulk
  obtain ⟨a0, len0, cap0, rfl⟩ := okWide_slice Tryd.underlying54 (hval 0 54 v0 rfl rfl)
  have k0 := h0
  have lt0 : ∀ x ∈ p0, x.block < W.heap.size := by obtain ⟨m, hm⟩ := k0; exact DataW.trod_lt m _ _ _ hm
  obtain ⟨rs0, hl0, w0, hn0⟩ : ∃ rs : List OpR, List.length rs = len0 ∧ ListG 46 OpR.cells (OpR.Ok W) W a0 rs ∧ len0 ≤ 1048576 := by
    obtain ⟨fuel, hf⟩ := h0
    exact open_script hf (by omega)
  clear hA0
  refine (walk W hwid a0 len0 cap0 rs0 hl0 w0 hn0).mono fun e W' ⟨he, bel⟩ => ?_
  subst he
  exact ⟨_, rfl, _, _, _, [], _, [], hW', trodAll_mk1 (shut_bool Tryd.underlying4 _), (trodAll_cons_mk (Below.trod laidOut (by kernel_rfl) (of_decide_eq_true (by kernel_rfl)) k0 bel lt0) trodAll_mk0), rfl, bel.frame _, fun h => by cases h⟩

noncomputable def laidWorld (os : Os) : World :=
  { World.holding Tryd.prog os ⟨#[], #[], []⟩ with heap := (World.holding Tryd.prog os ⟨#[], #[], []⟩).heap.modify 0 fun
      | .cells _ t frozen => .cells #[.int .i64 4, .int .i64 4, .int .i64 8, .int .i64 16, .int .i64 16, .int .i64 1, .int .i64 1, .int .i64 1, .int .i64 13, .int .i64 8, .int .i64 8, .int .i64 16, .int .i64 32, .int .i64 32] t frozen
      | o => o }
theorem laid_met (os : Os) : laidMet Tryd.prog Rows.ip4PlaysRow.laid ((laidWorld os).forCall (fun _ _ => 0) ⟨#[], #[.slice none 0 0], []⟩).memory :=
  laidMet_of_run' 8 (by kernel_rfl) (by kernel_rfl)
theorem reads (os : Os) {H : Type} (enc : TypeId × Value → H) : ∃ places, DataW.whole enc Tryd.prog ((laidWorld os).forCall (fun _ _ => 0) ⟨#[], #[.slice none 0 0], []⟩).memory Tryd.f15.params.toList Rows.ip4PlaysSpec.vars false (#[.slice none 0 0] : Array Value).toList 8 = some ([.nil], [], places) :=
  ⟨[], by kernel_rfl⟩
set_option maxRecDepth 100000 in
theorem lifted (os : Os) (started : os.Started) (H : Type) (enc : TypeId × Value → H) (F : Stop.Interp) :
    ReturnsInHanded {} Tryd.checked os 15 .any ((Rows.OpenSpec.upto Rows.ip4PlaysSpec).preRow enc Tryd.prog Tryd.f15 Rows.ip4PlaysUptoRow.domain false Rows.ip4PlaysUptoRow.laid) (((Rows.OpenSpec.upto Rows.ip4PlaysSpec).at F).post enc Tryd.prog Tryd.f15 false true false false) := by
  obtain ⟨places, hx⟩ := reads os enc
  refine returnsInHanded_of_row (C := Tryd.checked) (s := (Rows.OpenSpec.upto Rows.ip4PlaysSpec)) own started (by kernel_rfl) Tryd.func15
    (witness_row_at (enc := enc) (C := Tryd.checked) false (laidWorld os) #[.slice none 0 0] rfl (by kernel_rfl) (by kernel_rfl) (by kernel_rfl)
      (OpenSpec.preRow_of_cond 8 hx (by kernel_rfl) (fun k hk => by cases hk; kernel_rfl) (by kernel_rfl) (laid_met os))) ?_
  intro W base args ds gs before hval hW _ hcond _ hL _ _
  exact contract H enc W base args ds gs before hval hW hL (hcond _ rfl)

theorem said : Rows.Ip4PlaysUptoSaid :=
  OpenClaim.holds_of_cond 15 Tryd.f15 rfl rfl rfl rfl rfl rfl rfl ⟨rfl, rfl, rfl, rfl, rfl⟩ rfl rfl rfl rfl rfl (by kernel_rfl) Tryd.func15 (by kernel_rfl)
    (of_decide_eq_true (by kernel_rfl)) (by unfold Func.isWrapper; first | (rw [if_pos (by decide +kernel)]; kernel_rfl) | (rw [if_neg (by decide +kernel)]; exact ⟨rfl, rfl⟩))
    (fun os started H enc _ F => by rw [OpenClaim.pre_eq_preRow]; exact lifted os started H enc F)
theorem plain (f : FuncId) (fn : Func) (hf : Tryd.pinned.checked.prog.funcNamed "weir/weirlaw6.Ip4Plays" = some f) (hfn : Tryd.pinned.checked.prog.funcs[f]? = some fn) :
    false = Tryd.pinned.checked.prog.looks [] ∧ ∀ (j : Nat) t, fn.params[j]? = some t → Tryd.pinned.checked.prog.wantsStandIn t = false := by
  obtain rfl : f = 15 := Option.some.inj ((show Tryd.prog.funcNamed "weir/weirlaw6.Ip4Plays" = some 15 by kernel_rfl).symm.trans hf) |>.symm
  obtain rfl : fn = Tryd.f15 := (Option.some.inj (Tryd.func15.symm.trans hfn)).symm
  refine ⟨by kernel_rfl, fun j t ht => ?_⟩
  rw [Tryd.params15] at ht
  have ht' : t = 54 := by simpa using Array.mem_of_getElem? ht
  subst ht'
  · exact (show Tryd.prog.wantsStandIn 54 = false by kernel_rfl)
end Go.Proofs.YtdinhgfkpjaipaaDoor.ip4Plays
namespace Go.Proofs.YtdinhgfkpjaipaaDoor
theorem ip4Plays_card : Rows.Ip4PlaysUptoCardSaid :=
  Claim7.holds_tied_plain_at .later [] _ _ _ _ ip4Plays.said (fun _ h => by cases h) (by kernel_rfl) (fun _ h => by cases h) ip4PlaysUpto_row_tie rfl ⟨rfl, rfl⟩ (by kernel_rfl) rfl ip4Plays.plain (by kernel_rfl)
#print axioms ip4Plays_card
end Go.Proofs.YtdinhgfkpjaipaaDoor
