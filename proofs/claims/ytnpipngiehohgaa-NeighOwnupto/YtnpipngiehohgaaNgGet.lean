/-
  Layer 15: Get.
-/
import Derived.Test.YtnpipngiehohgaaNgMp
namespace Go.Proofs.Ytnpipngiehohgaa
open Go.RowKit Go.Maps

theorem run_buildnb0 (w : World) : (Instr.build 48 #[]).run Try.prog w = .ok (.agg (nbC nz)) w := by kernel_rfl
theorem wpList_build_nb0 {ops : Array Oper} {rest : List Oper} {o : Oper} {a : Act} {w : World} {Q : Exit → Act → World → Prop} (ho : o.op = .build 48 #[]) (hw : Region.wanted o (yielded ops a.tmps) = true)
    (h : wpList Try.prog ops Q rest (a.put o.dst (.agg (nbC nz))) w) : wpList Try.prog ops Q (o :: rest) a w := by
  refine wpList_step fun K hK => ?_
  rw [if_pos hw]
  have hrun : (execOp a.eval o).run Try.prog w = .ok (.value (.agg (nbC nz))) w := by
    obtain ⟨dst, op, type, pos, after, guard⟩ := o
    simp only at ho
    subst ho
    simp only [execOp, Sem.run_bind, List.map_toArray, List.map_nil, run_buildnb0 w, Result.andThen_ok]
    rfl
  unfold Oper.wp
  rw [hrun]
  exact hK _ _ h
theorem results_nbr_tmp {fn : Func} {p u : Tmp} (h : fn.results = #[.cell p 48, .tmp u]) (tmps : Array Value) (w : World) (O : Nat) (v : NB) (hp : tmps.getD p undef = .pointer (some ⟨O, 0, none⟩)) (hb : NbrAt w O v) :
    (results fn tmps).run Try.prog w = .ok (.tuple #[.agg (nbC v), tmps.getD u undef]) w := by
  rw [results_cell_tmp h tmps Try.prog w, hp]
  simp [asAddr, run_loadVar_row w O _ 48 (nbC v) _ _ hb Try.underlying48 rfl Try.size_nbr, Result.andThen]
theorem results_mac_tt {fn : Func} {p u v : Tmp} (h : fn.results = #[.cell p 33, .tmp u, .tmp v]) (tmps : Array Value) (w : World) (O : Nat) (x : Nat → Nat) (hp : tmps.getD p undef = .pointer (some ⟨O, 0, none⟩)) (hb : MacAt w O x) :
    (results fn tmps).run Try.prog w = .ok (.tuple #[.agg (macC x), tmps.getD u undef, tmps.getD v undef]) w := by
  have hp' : tmps[p]?.getD undef = .pointer (some ⟨O, 0, none⟩) := by simpa using hp
  simp [results, h, hp', asAddr, run_loadVar_row w O _ 33 (macC x) _ _ hb Try.underlying33 rfl Try.size_mac]
theorem results_key_tmp {fn : Func} {p u : Tmp} (h : fn.results = #[.cell p 98, .tmp u]) (tmps : Array Value) (w : World) (O : Nat) (v : KV) (hp : tmps.getD p undef = .pointer (some ⟨O, 0, none⟩)) (hb : KeyAt w O v) :
    (results fn tmps).run Try.prog w = .ok (.tuple #[.agg (kC v), tmps.getD u undef]) w := by
  rw [results_cell_tmp h tmps Try.prog w, hp]
  simp [asAddr, run_loadVar_row w O _ 98 (kC v) _ _ hb Try.underlying98 rfl Try.size_key, Result.andThen]
/-- what Get tells -/
def gtN (E : List EV) (k : KV) : NB := match fE E k with
  | none => nz
  | some e => ⟨k, e.n.m, e.n.st, e.n.ag, e.n.tr, (e.n.ln.length : Int)⟩
set_option maxHeartbeats 3200000 in
set_option maxRecDepth 100000 in
theorem get_any (t M : Nat) (c : CF) (E : List EV) (k : KV) (hk : k.Wf) (w : World) (h : CA w t M c E) : Calls Try.prog 22 #[.pointer (some ⟨t, 0, none⟩), .int .i64 k.pt, .agg (ipCells k.V k.x)] w fun r w' => r = .returned (.tuple #[.agg (nbC (gtN E k)), .bool (fE E k).isSome]) ∧ Below w.heap.size w w' := by
  have HC : Hid (CA w t M c E) := h
  have HK : Hid k.Wf := hk
  clear h hk
  have hb := ipr_new w k.V k.x
  have bel : Below w.heap.size w (w.alloc (.cells (ipCells k.V k.x) 31)) := (Below.refl _ _).alloc (Nat.le_refl _) _
  obtain ⟨CX, hC⟩ : ∃ C, C = ipCells k.V k.x := ⟨_, rfl⟩
  obtain ⟨W, hW⟩ : ∃ W, W = w.alloc (.cells (ipCells k.V k.x) 31) := ⟨_, rfl⟩
  rw [← hW] at hb bel
  obtain ⟨B, hB⟩ : ∃ B, B = w.heap.size := ⟨_, rfl⟩
  rw [← hB] at hb
  have HBX : Hid (IprAt W B k.V k.x) := hb
  rw [← hC] at hW ⊢
  have HOX : Hid (w.heap.size = B) := hB.symm
  have HLX : Hid (Below w.heap.size w W) := bel
  have HWX : Hid (w.alloc (.cells CX 31) = W) := hW.symm
  clear hb hW hB hC bel
  have HSZ : Hid (W.heap.size = B + 1) := by show _ = _; rw [← HWX.out, World.size_alloc, HOX.out]
  obtain ⟨Y, hY⟩ : ∃ Y, Y = W.alloc (.cells (nbC nz) 48) := ⟨_, rfl⟩
  have bY : Below W.heap.size W Y := by rw [hY]; exact (Below.refl _ _).alloc (Nat.le_refl _) _
  have HY : Hid (IprAt Y B k.V k.x ∧ NbrAt Y (B + 1) nz ∧ Below w.heap.size w Y) := ⟨HBX.out.below bY, by rw [hY, ← HSZ.out]; exact nbr_new W nz, bthen HLX.out bY⟩
  have HYE : Hid (W.alloc (.cells (nbC nz) 48) = Y ∧ Y.heap.size = B + 2) := ⟨hY.symm, by rw [hY, World.size_alloc, HSZ.out]⟩
  clear hY bY
  go_enter Try.func22, Try.ntmps22
  go_wp2_with (first | (rw [HOX.out, HWX.out]; refine wpList_alloc_nbr rfl rfl ?_; rw [HSZ.out, HYE.out.1]; simp only [Act.put, List.setIfInBounds_toArray, List.set_cons_succ, List.set_cons_zero]) | (refine wpList_load_ipr (.tmp 5) rfl B k.V k.x rfl HY.out.1 rfl ?_) | (refine wpList_build_key (.tmp 10) (.tmp 11) rfl k.pt k.V k.x rfl rfl rfl ?_) | (refine wpList_alloc_key rfl rfl ?_) | (refine wpList_store_key (.tmp 8) (.tmp 12) rfl rfl Y.heap.size kz k rfl rfl (key_new Y kz) rfl ?_))
  intro w1 hK1 k1
  have bz : Below Y.heap.size Y (Y.alloc (.cells (kC kz) 98)) := (Below.refl _ _).alloc (Nat.le_refl _) _
  have b1 : Below Y.heap.size Y w1 := bz.trans (k1.below (fun q e => by have e' : q = Y.heap.size := e; omega) bz.size)
  obtain ⟨O8, hO8⟩ : ∃ O, O = Y.heap.size := ⟨_, rfl⟩
  rw [← hO8] at hK1 ⊢
  have H1 : Hid (KeyAt w1 O8 k ∧ NbrAt w1 (B + 1) nz ∧ Below w.heap.size w w1 ∧ CA w1 t M c E ∧ B + 1 ≠ O8) := ⟨hK1, HY.out.2.1.below b1, bthen HY.out.2.2 b1, HC.out.below (bthen HY.out.2.2 b1), by have := HYE.out.2; omega⟩
  clear hK1 k1 bz b1 hO8
  obtain ⟨pv, hpv⟩ : ∃ pv, ptE (fE E k) = pv := ⟨_, rfl⟩
  have HPV : Hid (ptE (fE E k) = pv) := hpv
  clear hpv
  go_upto_region 2 with fail
  go_cut [9] (fun v wx => v = pv ∧ Hid (KeyAt wx O8 k ∧ NbrAt wx (B + 1) nz ∧ Below w.heap.size w wx ∧ CA wx t M c E))
  case first =>
    refine MixH.start (fun A => KeyAt A O8 k ∧ CA A t M c E) (by kernel_rfl) ?_
    obtain ⟨wA, hwA⟩ : ∃ wA, wA = w1.drew := ⟨_, rfl⟩
    have bdr : Below w1.heap.size w1 wA := by rw [hwA]; exact (Below.refl _ _).drew
    have hS : KeyAt wA O8 k ∧ CA wA t M c E := ⟨H1.out.1.below bdr, H1.out.2.2.2.1.below bdr⟩
    have HE : Hid (KeyAt wA O8 k ∧ NbrAt wA (B + 1) nz ∧ Below w.heap.size w wA ∧ CA wA t M c E) := ⟨hS.1, H1.out.2.1.below bdr, bthen H1.out.2.2.1 bdr, hS.2⟩
    rw [← hwA]
    clear hwA bdr
    refine MixH.takes [true, true, true] 4 (by kernel_rfl) (by kernel_rfl) (by decide) (by kernel_rfl) hS (fun K hK => ?_)
    simp only [Mix.pick]
    repeat (go_big_quiet_step (fail))
    refine wpQuiet_nil (hK _ ?_)
    clear hK K
    refine MixH.take 3 3 _ (.map (some M)) rfl (by kernel_rfl) (by kernel_rfl) (by kernel_rfl) (by kernel_rfl) (yields_map (.tmp 15) rfl ⟨t, 5, none⟩ (.map (some M)) rfl rfl (fun A hA => hA.2.cb.mp)) hS (fun a' ha => ?_)
    simp only [Act.put, List.setIfInBounds_toArray, List.set_cons_succ, List.set_cons_zero] at ha
    subst ha
    refine MixH.take 2 4 _ (.agg (kC k)) rfl (by kernel_rfl) (by kernel_rfl) (by kernel_rfl) (by kernel_rfl) (yields_key (.tmp 8) rfl O8 0 k rfl rfl (fun A hA => hA.1.all)) hS (fun a' ha => ?_)
    simp only [Act.put, List.setIfInBounds_toArray, List.set_cons_succ, List.set_cons_zero] at ha
    subst ha
    refine MixH.take 1 5 _ (pv) rfl (by kernel_rfl) (by kernel_rfl) (by kernel_rfl) (by kernel_rfl) (yields_look (.tmp 16) (.tmp 17) rfl t M c E k HK.out rfl rfl pv HPV.out rfl (fun A hA => hA.2)) hS (fun a' ha => ?_)
    simp only [Act.put, List.setIfInBounds_toArray, List.set_cons_succ, List.set_cons_zero] at ha
    subst ha
    refine MixH.takes [false, false, false, false, false, false, true] 0 (by kernel_rfl) (by kernel_rfl) (by decide) (by kernel_rfl) hS (fun K hK => ?_)
    simp only [Mix.pick]
    repeat (go_big_quiet_step (fail))
    refine wpQuiet_nil (hK _ ?_)
    clear hK K
    refine MixH.done (by kernel_rfl) ?_
    clear hS
    go_wp2
    go_meet
    exact ⟨rfl, HE⟩
  case rest =>
    obtain ⟨rfl, HE⟩ := hcut
    clear H1
    cases hf : fE E k with
    | none =>
      rw [hf] at HPV
      have HG : Hid (gtN E k = nz ∧ (fE E k).isSome = false) := by refine ⟨?_, by rw [hf]; rfl⟩; unfold gtN; rw [hf]
      clear hf
      have hv := HPV.out
      simp only [ptE] at hv
      subst hv
      go_wp2_with (first | (refine wpList_build_nb0 rfl rfl ?_) | (refine wpList_store_nbr (.tmp 6) (.tmp 21) rfl rfl (B + 1) nz nz rfl rfl HE.out.2.1 rfl ?_))
      intro w3 hN3 k3
      have H3 : Hid (NbrAt w3 (B + 1) nz ∧ Below w.heap.size w w3) := ⟨hN3, by
        have h1 := HE.out.2.2.1
        have h2 := HOX.out
        exact h1.trans (k3.below (fun q hq => by have hq' : q = B + 1 := hq; omega) h1.size)⟩
      clear hN3 k3
      go_wp2_with fail
      refine bodyPost_ret (results_nbr_tmp rfl _ _ (B + 1) _ rfl H3.out.1) rfl ?_
      exact ⟨by rw [HG.out.1, HG.out.2]; rfl, H3.out.2⟩
    | some e =>
      rw [hf] at HPV
      have hm := (fE_some hf).1
      obtain ⟨la, lc, hlf⟩ := (HE.out.2.2.2.li e hm).form
      have QT : Hid _ := told_any e k wc (HE.out.2.2.2.en e hm) la e.n.ln.length lc hlf
      have HG : Hid (gtN E k = ⟨k, e.n.m, e.n.st, e.n.ag, e.n.tr, (e.n.ln.length : Int)⟩ ∧ (fE E k).isSome = true) := by refine ⟨?_, by rw [hf]; rfl⟩; unfold gtN; rw [hf]
      obtain ⟨nv, hnv⟩ : ∃ nv : NB, (⟨k, e.n.m, e.n.st, e.n.ag, e.n.tr, (e.n.ln.length : Int)⟩ : NB) = nv := ⟨_, rfl⟩
      rw [hnv] at QT HG
      clear hf hnv hlf
      have hv := HPV.out
      simp only [ptE] at hv
      subst hv
      go_wp2_with (first | (refine wpList_load_key (.tmp 8) rfl O8 k rfl HE.out.1 rfl ?_))
      refine Calls.mono QT.out ?_
      rintro r w3 ⟨rfl, b3⟩
      have H3 : Hid (NbrAt w3 (B + 1) nz ∧ Below w.heap.size w w3) := ⟨HE.out.2.1.below b3, bthen HE.out.2.2.1 b3⟩
      clear b3 QT
      go_wp2_with (first | (refine wpList_store_nbr (.tmp 6) (.tmp 24) rfl rfl (B + 1) nz nv rfl rfl H3.out.1 rfl ?_))
      intro w4 hN4 k4
      have H4 : Hid (NbrAt w4 (B + 1) nv ∧ Below w.heap.size w w4) := ⟨hN4, by
        have h1 := H3.out.2
        have h2 := HOX.out
        exact h1.trans (k4.below (fun q hq => by have hq' : q = B + 1 := hq; omega) h1.size)⟩
      clear hN4 k4
      go_wp2_with fail
      refine bodyPost_ret (results_nbr_tmp rfl _ _ (B + 1) _ rfl H4.out.1) rfl ?_
      exact ⟨by rw [HG.out.1, HG.out.2]; rfl, H4.out.2⟩
end Go.Proofs.Ytnpipngiehohgaa
