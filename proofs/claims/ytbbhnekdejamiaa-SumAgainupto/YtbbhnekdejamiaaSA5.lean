/-
  The statements' own turned: its walk.
-/
import Derived.Test.YtbbhnekdejamiaaSA4
namespace Go.Proofs.Ytbbhnekdejamiaa.Wd
open Go.RowKit
open Ap

theorem yields_one {ops : Array Oper} {o : Oper} {a : Act} {S : World → Prop} (x : Operand) (ho : o.op = .load 3 x) (b off : Nat) (u : Value) (hx : a.eval x = .pointer (some ⟨b, off, none⟩)) (hw : Region.wanted o (yielded ops a.tmps) = true) (hS : ∀ w, S w → w.cell? ⟨b, off, none⟩ = some u) : YieldsIf Try.prog ops S o u a := by
  refine .inl ⟨hw, fun w hb => ?_⟩
  have hc := hS w hb
  have hu := Try.underlying3
  obtain ⟨dst, op, type, pos, after, guard⟩ := o
  simp only at ho
  subst ho
  simp only [execOp, Sem.run_bind, Sem.run_pure]
  rw [hx]
  simp [Instr.loadAt, go_sem, hc]
theorem yields_b8 {ops : Array Oper} {o : Oper} {a : Act} {S : World → Prop} (x : Operand) (ho : o.op = .load 5 x) (b off : Nat) (u : Value) (hx : a.eval x = .pointer (some ⟨b, off, none⟩)) (hw : Region.wanted o (yielded ops a.tmps) = true) (hS : ∀ w, S w → w.cell? ⟨b, off, none⟩ = some u) : YieldsIf Try.prog ops S o u a := by
  refine .inl ⟨hw, fun w hb => ?_⟩
  have hc := hS w hb
  have hu := Try.underlying5
  obtain ⟨dst, op, type, pos, after, guard⟩ := o
  simp only at ho
  subst ho
  simp only [execOp, Sem.run_bind, Sem.run_pure]
  rw [hx]
  simp [Instr.loadAt, go_sem, hc]
theorem yields_sl {ops : Array Oper} {o : Oper} {a : Act} {S : World → Prop} (x : Operand) (ho : o.op = .load 26 x) (b off : Nat) (u : Value) (hx : a.eval x = .pointer (some ⟨b, off, none⟩)) (hw : Region.wanted o (yielded ops a.tmps) = true) (hS : ∀ w, S w → w.cell? ⟨b, off, none⟩ = some u) : YieldsIf Try.prog ops S o u a := by
  refine .inl ⟨hw, fun w hb => ?_⟩
  have hc := hS w hb
  have hu := Try.underlying26
  obtain ⟨dst, op, type, pos, after, guard⟩ := o
  simp only at ho
  subst ho
  simp only [execOp, Sem.run_bind, Sem.run_pure]
  rw [hx]
  simp [Instr.loadAt, go_sem, hc]
theorem cell_far2 (w : World) (p a : Addr) (v : Value) (h : p.block ≠ a.block) : (w.setCell p v).cell? a = w.cell? a := by
  simp only [World.setCell, World.cell?, Array.getElem?_modify, h, if_false]
def tC (part at_ : Int) (by_ : Nat) (swap : Bool) : Array Value := #[.int .i64 part, .int .i64 at_, .int .u8 (by_ : Int), .bool swap]
def eB (e : LE) : Prop := e.l.length ≤ 1048576 ∧ ∀ x ∈ e.l, x < 256
/-- what turned leaves -/
def Tn (B : Nat) (w w' : World) (gl cap n : Nat) (ms : List Nat) : Prop := ∃ E', Li B w' (lV gl cap n) E' ms ∧ E'.length = n ∧ Below B w w' ∧ ∀ e ∈ E', eB e
theorem Tn.of {B : Nat} {w w' : World} {gl cap n : Nat} {E : List LE} {ms : List Nat} (h : Ln B w w' gl cap n E ms) (hn : (E.map LE.g ++ ms).Nodup) (hb : ∀ e ∈ E, eB e) : Tn B w w' gl cap n ms := ⟨E, h.li hn, h.len, h.bel, hb⟩
set_option maxHeartbeats 3200000 in
set_option maxRecDepth 100000 in
theorem turned_any (w : World) (B gl cap n : Nat) (E : List LE) (ms : List Nat) (h : Li B w (lV gl cap n) E ms) (hE : E.length = n) (hms : ms.length = n + 9) (part at_ : Int) (by_ : Nat) (hby : by_ < 256) (swap : Bool) (hn : n ≤ 40) (hb : ∀ e ∈ E, eB e) :
    Calls Try.prog 16 #[.slice (some ⟨gl, 0, none⟩) n cap, .agg (tC part at_ by_ swap)] w fun e w' => e = .returned (.tuple #[]) ∧ Tn B w w' gl cap n ms := by
  obtain ⟨W, hW⟩ : ∃ W, W = w.alloc (.cells (tC part at_ by_ swap) 40) := ⟨_, rfl⟩
  have hbW : Below w.heap.size w W := by rw [hW]; exact (Below.refl _ _).alloc (Nat.le_refl _) _
  have LW : Hid (Ln B w W gl cap n E ms) := (Ln.of h hE hms).below hbW
  have HND : Hid (E.map LE.g ++ ms).Nodup := h.nd
  have HBB : Hid (∀ e ∈ E, eB e) := hb
  have HE : Hid (E.length = n) := hE
  have hc : ∀ j, W.cell? ⟨w.heap.size, j, none⟩ = (tC part at_ by_ swap)[j]? := fun j => by rw [hW, World.cell?_alloc_at _ _ _ _ rfl]
  have c0 : W.cell? ⟨w.heap.size, 0, none⟩ = some (.int .i64 part) := by rw [hc]; rfl
  have c1 : W.cell? ⟨w.heap.size, 1, none⟩ = some (.int .i64 at_) := by rw [hc]; rfl
  have c2 : W.cell? ⟨w.heap.size, 2, none⟩ = some (.int .u8 (by_ : Int)) := by rw [hc]; rfl
  have c3 : W.cell? ⟨w.heap.size, 3, none⟩ = some (.bool swap) := by rw [hc]; rfl
  have hgO : gl < w.heap.size := by
    have := h.row
    rw [hE, hms] at this
    exact (this.lt gl rfl).2
  have HGO : Hid (gl < w.heap.size) := hgO
  have HLT : Hid (∀ e ∈ E, e.g < w.heap.size) := fun e he => h.lt e.g (List.mem_append_left _ (List.mem_map_of_mem he))
  obtain ⟨C, hC⟩ : ∃ C, C = tC part at_ by_ swap := ⟨_, rfl⟩
  rw [← hC] at hW ⊢
  have HW : Hid (w.alloc (.cells C 40) = W) := hW.symm
  obtain ⟨O, hO⟩ : ∃ O, O = w.heap.size := ⟨_, rfl⟩
  rw [← hO] at c0 c1 c2 c3
  have HO : Hid (w.heap.size = O) := hO.symm
  clear h hE hms hb hc hW hC hO hbW hgO
  go_enter Try.func16, Try.ntmps16
  go_upto_region 1 with fail
  rw [HW.out, HO.out]
  by_cases h0 : n = 0
  · have d0 : ((n : Int) == 0) = true := by simp [h0]
    clear h0
    go_wp2
    ((try simp only [Exit.inBlock, Exit.then]); refine bodyPost_ret (results_none rfl _ _ _) rfl ?_)
    exact ⟨rfl, Tn.of LW.out HND.out HBB.out⟩
  · have d0 : ((n : Int) == 0) = false := by simp; omega
    have hpos : 0 < n := by omega
    have Q1 : Hid _ := place_any part n W hpos (by omega)
    have hil := pl_lt part n hpos
    obtain ⟨i, hi⟩ : ∃ i, i = pl part n := ⟨_, rfl⟩
    rw [← hi] at Q1 hil
    clear hi h0
    go_wp2_with fail
    refine Calls.mono Q1.out ?_
    rintro e' wN ⟨rfl, rfl⟩
    clear Q1
    have hcel : ∀ q, (hq : q < n) → W.cell? ⟨gl, q, none⟩ = some (E[q]'(by rw [HE.out]; exact hq)).v := fun q hq => by
      have := LW.out.row.cellAt q (by omega)
      rw [this, List.getElem?_append_left (by rw [List.length_map, HE.out]; exact hq)]
      simp only [List.getElem?_map, Option.map_eq_some_iff]
      exact ⟨_, List.getElem?_eq_getElem _, rfl⟩
    have hfz : ∀ q, W.frozen? ⟨gl, q, none⟩ = false := fun q => LW.out.row.frozenAt q
    have hiE : i < E.length := by rw [HE.out]; exact hil
    have i0 : (0 : Int) ≤ (i : Int) := by omega
    have i1 : (i : Int) < (n : Int) := by omega
    have i2 : ((i : Int)).toNat = i := by omega
    have wi : IntKind.i64.wrap ((i : Int) + 1) = (i : Int) + 1 := by rw [IntKind.wrap_i64]; omega
    by_cases hsw : swap = true ∧ i + 1 < n
    · obtain ⟨hs1, hs2⟩ := hsw
      subst hs1
      have hjE : i + 1 < E.length := by rw [HE.out]; exact hs2
      obtain ⟨ei, hei⟩ : ∃ e, e = E[i] := ⟨_, rfl⟩
      obtain ⟨ej, hej⟩ : ∃ e, e = E[i + 1] := ⟨_, rfl⟩
      have ca : W.cell? ⟨gl, i, none⟩ = some (.slice (some ⟨ei.g, 0, none⟩) ei.l.length (2 * ei.l.length + 70)) := by rw [hei]; exact hcel i hil
      have cb : W.cell? ⟨gl, i + 1, none⟩ = some (.slice (some ⟨ej.g, 0, none⟩) ej.l.length (2 * ej.l.length + 70)) := by rw [hej]; exact hcel (i + 1) hs2
      have fa := hfz i
      have fb := hfz (i + 1)
      have m0 : (0 : Int) ≤ (i : Int) + 1 := by omega
      have m1 : (i : Int) + 1 < (n : Int) := by omega
      have m2 : ((i : Int) + 1).toNat = i + 1 := by omega
      have FIN : Hid (∀ A, Below W.heap.size W A → Tn B w ((A.setCell ⟨gl, i, none⟩ ej.v).setCell ⟨gl, i + 1, none⟩ ei.v) gl cap n ms) := by
        intro A hA
        have l1 := (LW.out.below hA).put i hil ej (.inl (by rw [hej]; exact List.getElem_mem _))
        have l2 := l1.put (i + 1) hs2 ei (.inr ?_)
        · refine Tn.of l2 ?_ ?_
          · rw [hei, hej]
            exact swap_nd HND.out i (i + 1) hiE hjE
          · intro e he
            rcases List.mem_or_eq_of_mem_set he with he | rfl
            · rcases List.mem_or_eq_of_mem_set he with he | rfl
              · exact HBB.out e he
              · rw [hej]; exact HBB.out _ (List.getElem_mem _)
            · rw [hei]; exact HBB.out _ (List.getElem_mem _)
        · have h1 := (LW.out.below hA).own ei (by rw [hei]; exact List.getElem_mem _)
          exact h1.kept ((LW.out.below hA).row.stored i ej.v).2 (apart h1 (LW.out.below hA).row (by decide))
      clear hcel hfz hei hej hs2
      go_wp2
      refine Mix.start (by kernel_rfl) ?_
      obtain ⟨wM, hwM⟩ : ∃ wM, wM = W.drew := ⟨_, rfl⟩
      have ca' : wM.cell? ⟨gl, i, none⟩ = some (.slice (some ⟨ei.g, 0, none⟩) ei.l.length (2 * ei.l.length + 70)) := by rw [hwM]; exact ca
      have cb' : wM.cell? ⟨gl, i + 1, none⟩ = some (.slice (some ⟨ej.g, 0, none⟩) ej.l.length (2 * ej.l.length + 70)) := by rw [hwM]; exact cb
      have fa' : wM.frozen? ⟨gl, i, none⟩ = false := by rw [hwM]; exact fa
      have fb' : wM.frozen? ⟨gl, i + 1, none⟩ = false := by rw [hwM]; exact fb
      have HF : Hid (Tn B w ((wM.setCell ⟨gl, i, none⟩ ej.v).setCell ⟨gl, i + 1, none⟩ ei.v) gl cap n ms) := by rw [hwM]; exact FIN.out _ (Below.refl _ _).drew
      rw [← hwM]
      clear hwM ca cb fa fb FIN
      refine Mix.take [true, true, true, true, true, true, true, true, true, false, true, true, true] 6 (by kernel_rfl) (by kernel_rfl) (by decide) (by kernel_rfl) (fun K hK => ?_)
      simp only [Mix.pick]
      repeat (go_big_quiet_step (fail))
      refine wpQuiet_nil (hK _ ?_)
      clear hK K
      refine Mix.pair [false, false, false, false, false, false, false, false, false, true] [false, false, false, false, false, false, false, false, false, false, false, false, false, true] 5 9 13 _ _ rfl rfl rfl rfl (by kernel_rfl) (by kernel_rfl) (fun K hK => ?_) (fun K hK => ?_)
      · simp only [Mix.pick]
        go_wp2
        refine ⟨rfl, hK _ _ ?_⟩
        clear hK K
        refine Mix.one [false, false, false, false, false, false, false, false, false, false, false, false, false, true] 4 13 _ rfl rfl (by kernel_rfl) (by kernel_rfl) (fun K hK => ?_)
        simp only [Mix.pick]
        go_wp2
        refine ⟨rfl, hK _ _ ?_⟩
        clear hK K
        refine Mix.take [false, false, false, false, false, false, false, false, false, false, false, false, false, false, true] 3 (by kernel_rfl) (by kernel_rfl) (by decide) (by kernel_rfl) (fun K hK => ?_)
        simp only [Mix.pick]
        repeat (go_big_quiet_step (fail))
        refine wpQuiet_nil (hK _ ?_)
        clear hK K
        refine Mix.one [false, false, false, false, false, false, false, false, false, false, false, false, false, false, false, true] 2 15 _ rfl rfl (by kernel_rfl) (by kernel_rfl) (fun K hK => ?_)
        simp only [Mix.pick]
        go_wp2
        refine ⟨rfl, hK _ _ ?_⟩
        clear hK K
        refine Mix.take [false, false, false, false, false, false, false, false, false, false, false, false, false, false, false, false, true] 1 (by kernel_rfl) (by kernel_rfl) (by decide) (by kernel_rfl) (fun K hK => ?_)
        simp only [Mix.pick]
        repeat (go_big_quiet_step (fail))
        refine wpQuiet_nil (hK _ ?_)
        clear hK K
        refine Mix.one [false, false, false, false, false, false, false, false, false, false, false, false, false, false, false, false, false, true] 0 17 _ rfl rfl (by kernel_rfl) (by kernel_rfl) (fun K hK => ?_)
        simp only [Mix.pick]
        go_wp2
        refine ⟨rfl, hK _ _ ?_⟩
        clear hK K
        refine Mix.done (by kernel_rfl) ?_
        go_wp2
        go_end0
        exact ⟨rfl, HF.out⟩
      · simp only [Mix.pick]
        go_wp2
        refine ⟨rfl, hK _ _ ?_⟩
        clear hK K
        refine Mix.one [false, false, false, false, false, false, false, false, false, true] 4 9 _ rfl rfl (by kernel_rfl) (by kernel_rfl) (fun K hK => ?_)
        simp only [Mix.pick]
        go_wp2
        refine ⟨rfl, hK _ _ ?_⟩
        clear hK K
        refine Mix.take [false, false, false, false, false, false, false, false, false, false, false, false, false, false, true] 3 (by kernel_rfl) (by kernel_rfl) (by decide) (by kernel_rfl) (fun K hK => ?_)
        simp only [Mix.pick]
        repeat (go_big_quiet_step (fail))
        refine wpQuiet_nil (hK _ ?_)
        clear hK K
        refine Mix.one [false, false, false, false, false, false, false, false, false, false, false, false, false, false, false, true] 2 15 _ rfl rfl (by kernel_rfl) (by kernel_rfl) (fun K hK => ?_)
        simp only [Mix.pick]
        go_wp2
        refine ⟨rfl, hK _ _ ?_⟩
        clear hK K
        refine Mix.take [false, false, false, false, false, false, false, false, false, false, false, false, false, false, false, false, true] 1 (by kernel_rfl) (by kernel_rfl) (by decide) (by kernel_rfl) (fun K hK => ?_)
        simp only [Mix.pick]
        repeat (go_big_quiet_step (fail))
        refine wpQuiet_nil (hK _ ?_)
        clear hK K
        refine Mix.one [false, false, false, false, false, false, false, false, false, false, false, false, false, false, false, false, false, true] 0 17 _ rfl rfl (by kernel_rfl) (by kernel_rfl) (fun K hK => ?_)
        simp only [Mix.pick]
        go_wp2
        refine ⟨rfl, hK _ _ ?_⟩
        clear hK K
        refine Mix.done (by kernel_rfl) ?_
        go_wp2
        go_end0
        exact ⟨rfl, HF.out⟩
    · have hb3 : swap = false ∨ (swap = true ∧ ¬ i + 1 < n) := by
        cases swap with
        | false => exact .inl rfl
        | true => exact .inr ⟨rfl, fun h => hsw ⟨rfl, h⟩⟩
      clear hsw
      obtain ⟨ei, hei⟩ : ∃ e, e = E[i] := ⟨_, rfl⟩
      have ca : W.cell? ⟨gl, i, none⟩ = some (.slice (some ⟨ei.g, 0, none⟩) ei.l.length (2 * ei.l.length + 70)) := by rw [hei]; exact hcel i hil
      obtain ⟨M, hM⟩ : ∃ M, M = ei.l.length := ⟨_, rfl⟩
      have hM20 : M ≤ 1048576 := by rw [hM, hei]; exact (HBB.out _ (List.getElem_mem _)).1
      rw [← hM] at ca
      have HMM : Hid (M = ei.l.length) := hM
      have HEI : Hid (ei = E[i]) := hei
      have HIE : Hid (i < E.length) := hiE
      clear hcel hfz hei hM
      rcases hb3 with rfl | ⟨rfl, hge⟩
      · by_cases hM0 : 0 < M
        · have b0 : (0 : Int) < (M : Int) := by omega
          have hMq : ei.l.length = M := HMM.out.symm
          have HNE : Hid (ei.g ≠ gl ∧ ei.g ≠ O) := by
            have hm : ei ∈ E := by rw [HEI.out]; exact List.getElem_mem _
            have h1 := LW.out.own ei hm
            refine ⟨fun e => ?_, fun e => ?_⟩
            · have := apart h1 LW.out.row (by decide)
              rcases this with h | h
              · simp [Value.ownBlock] at h
              · exact h (by simp [Value.ownBlock, e])
            · have := HLT.out ei hm
              have := HO.out
              omega
          have HCX : Hid (∀ q, q < M → ∃ z, W.drew.cell? ⟨ei.g, q, none⟩ = some z) := fun q hq => by
            have hm : ei ∈ E := by rw [HEI.out]; exact List.getElem_mem _
            have h1 := LW.out.own ei hm
            have := h1.cellAt q (by omega)
            refine ⟨_, (show W.drew.cell? ⟨ei.g, q, none⟩ = W.cell? ⟨ei.g, q, none⟩ from rfl).trans (this.trans (List.getElem?_eq_getElem ?_))⟩
            have h2 := h1.len
            rw [List.length_map, toI_len]
            omega
          have HFX : Hid (∀ q, W.drew.frozen? ⟨ei.g, q, none⟩ = false) := fun q => by
            have hm : ei ∈ E := by rw [HEI.out]; exact List.getElem_mem _
            exact (LW.out.own ei hm).frozenAt q
          have FIN : Hid (∀ A, Below W.heap.size W A → ∀ q, q < M → Tn B w (A.setCell ⟨ei.g, q, none⟩ (.int .u8 (by_ : Int))) gl cap n ms) := by
            intro A hA q hq
            have l1 := (LW.out.below hA).byte HND.out i HIE.out q by_ (by rw [← HEI.out, hMq]; exact hq)
            rw [← HEI.out] at l1
            refine Tn.of l1 ?_ ?_
            · rw [HEI.out]
              exact byte_nd HND.out i HIE.out _
            · intro e he
              rcases List.mem_or_eq_of_mem_set he with he | rfl
              · exact HBB.out e he
              · have h1 := HBB.out ei (by rw [HEI.out]; exact List.getElem_mem _)
                refine ⟨by show (ei.l.set q by_).length ≤ _; rw [List.length_set]; exact h1.1, ?_⟩
                intro z hz
                rcases List.mem_or_eq_of_mem_set hz with hz | rfl
                · exact h1.2 z hz
                · exact hby
          clear hMq
          go_wp2
          refine MixH.start (fun A => A.cell? ⟨gl, i, none⟩ = some (.slice (some ⟨ei.g, 0, none⟩) M (2 * M + 70)) ∧ A.cell? ⟨O, 1, none⟩ = some (.int .i64 at_) ∧ A.cell? ⟨O, 2, none⟩ = some (.int .u8 (by_ : Int))) (by kernel_rfl) ?_
          obtain ⟨wM, hwM⟩ : ∃ wM, wM = W.drew := ⟨_, rfl⟩
          have hS : wM.cell? ⟨gl, i, none⟩ = some (.slice (some ⟨ei.g, 0, none⟩) M (2 * M + 70)) ∧ wM.cell? ⟨O, 1, none⟩ = some (.int .i64 at_) ∧ wM.cell? ⟨O, 2, none⟩ = some (.int .u8 (by_ : Int)) := by rw [hwM]; exact ⟨ca, c1, c2⟩
          have HFM : Hid (∀ q, q < M → Tn B w (wM.setCell ⟨ei.g, q, none⟩ (.int .u8 (by_ : Int))) gl cap n ms) := by rw [hwM]; exact fun q hq => FIN.out _ (Below.refl _ _).drew q hq
          have hcx : ∀ q, q < M → ∃ z, wM.cell? ⟨ei.g, q, none⟩ = some z := by rw [hwM]; exact fun q hq => HCX.out q hq
          have hfx : ∀ q, wM.frozen? ⟨ei.g, q, none⟩ = false := by rw [hwM]; exact fun q => HFX.out q
          rw [← hwM]
          clear hwM ca c0 c1 c2 c3 FIN HCX HFX
          refine MixH.takes [true, true, true, false, true, false, true, true, true, false, false, false, true] 8 (by kernel_rfl) (by kernel_rfl) (by decide) (by kernel_rfl) hS (fun K hK => ?_)
          simp only [Mix.pick]
          repeat (go_big_quiet_step (fail))
          refine wpQuiet_nil (hK _ ?_)
          clear hK K
          refine MixH.take 7 3 _ (.slice (some ⟨ei.g, 0, none⟩) M (2 * M + 70)) rfl (by kernel_rfl) (by kernel_rfl) (by kernel_rfl) (by kernel_rfl) (yields_sl (.tmp 46) rfl gl i _ rfl rfl (fun A hA => hA.1)) hS (fun a' ha => ?_)
          simp only [Act.put, List.setIfInBounds_toArray, List.set_cons_succ, List.set_cons_zero] at ha
          subst ha
          refine MixH.take 6 5 _ (.int .i64 at_) rfl (by kernel_rfl) (by kernel_rfl) (by kernel_rfl) (by kernel_rfl) (yields_one (.tmp 48) rfl O 1 _ rfl rfl (fun A hA => hA.2.1)) hS (fun a' ha => ?_)
          simp only [Act.put, List.setIfInBounds_toArray, List.set_cons_succ, List.set_cons_zero] at ha
          subst ha
          refine MixH.take 5 9 _ (.slice (some ⟨ei.g, 0, none⟩) M (2 * M + 70)) rfl (by kernel_rfl) (by kernel_rfl) (by kernel_rfl) (by kernel_rfl) (yields_sl (.tmp 52) rfl gl i _ rfl rfl (fun A hA => hA.1)) hS (fun a' ha => ?_)
          simp only [Act.put, List.setIfInBounds_toArray, List.set_cons_succ, List.set_cons_zero] at ha
          subst ha
          refine MixH.take 4 13 _ (.int .u8 (by_ : Int)) rfl (by kernel_rfl) (by kernel_rfl) (by kernel_rfl) (by kernel_rfl) (yields_b8 (.tmp 56) rfl O 2 _ rfl rfl (fun A hA => hA.2.2)) hS (fun a' ha => ?_)
          simp only [Act.put, List.setIfInBounds_toArray, List.set_cons_succ, List.set_cons_zero] at ha
          subst ha
          refine MixH.takes [false, false, false, false, false, false, false, false, false, false, true] 3 (by kernel_rfl) (by kernel_rfl) (by decide) (by kernel_rfl) hS (fun K hK => ?_)
          simp only [Mix.pick]
          repeat (go_big_quiet_step (fail))
          refine wpQuiet_nil (hK _ ?_)
          clear hK K
          refine MixH.one [false, false, false, false, false, false, false, false, false, false, false, true] 2 11 _ rfl rfl (by kernel_rfl) (by kernel_rfl) (fun K hK => ?_)
          simp only [Mix.pick]
          go_wp2_with fail
          refine Calls.mono (place_any at_ M wM hM0 (by omega)) ?_
          rintro e' wN ⟨rfl, rfl⟩
          go_wp2
          refine ⟨rfl, hK _ _ hS ?_⟩
          clear hK K
          obtain ⟨q, hq⟩ : ∃ q, q = pl at_ M := ⟨_, rfl⟩
          have hql : q < M := by rw [hq]; exact pl_lt at_ M hM0
          rw [← hq]
          clear hq
          obtain ⟨zq, hzq⟩ := hcx q hql
          have hfq := hfx q
          have q0 : (0 : Int) ≤ (q : Int) := by omega
          have q1 : (q : Int) < (M : Int) := by omega
          have q2 : ((q : Int)).toNat = q := by omega
          have HF : Hid _ := HFM.out q hql
          clear hcx hfx HFM
          refine MixH.takes [false, false, false, false, false, false, false, false, false, false, false, false, false, false, true] 1 (by kernel_rfl) (by kernel_rfl) (by decide) (by kernel_rfl) hS (fun K hK => ?_)
          simp only [Mix.pick]
          repeat (go_big_quiet_step (fail))
          refine wpQuiet_nil (hK _ ?_)
          clear hK K
          refine MixH.one [false, false, false, false, false, false, false, false, false, false, false, false, false, false, false, true] 0 15 _ rfl rfl (by kernel_rfl) (by kernel_rfl) (fun K hK => ?_)
          simp only [Mix.pick]
          have hS2 : (wM.setCell ⟨ei.g, q, none⟩ (.int .u8 (by_ : Int))).cell? ⟨gl, i, none⟩ = some (.slice (some ⟨ei.g, 0, none⟩) M (2 * M + 70)) ∧ (wM.setCell ⟨ei.g, q, none⟩ (.int .u8 (by_ : Int))).cell? ⟨O, 1, none⟩ = some (.int .i64 at_) ∧ (wM.setCell ⟨ei.g, q, none⟩ (.int .u8 (by_ : Int))).cell? ⟨O, 2, none⟩ = some (.int .u8 (by_ : Int)) := by
            rw [cell_far2 _ _ _ _ HNE.out.1, cell_far2 _ _ _ _ HNE.out.2, cell_far2 _ _ _ _ HNE.out.2]
            exact hS
          go_wp2
          clear hS
          have hS := hS2
          refine ⟨rfl, hK _ _ hS ?_⟩
          clear hK K
          refine MixH.done (by kernel_rfl) ?_
          go_wp2
          go_end0
          exact ⟨rfl, HF.out⟩
        · have b0 : ¬ (0 : Int) < (M : Int) := by omega
          go_wp2
          go_end0
          exact ⟨rfl, Tn.of LW.out HND.out HBB.out⟩
      · have m1 : ¬ ((i : Int) + 1 < (n : Int)) := by omega
        clear hge
        by_cases hM0 : 0 < M
        · have b0 : (0 : Int) < (M : Int) := by omega
          have hMq : ei.l.length = M := HMM.out.symm
          have HNE : Hid (ei.g ≠ gl ∧ ei.g ≠ O) := by
            have hm : ei ∈ E := by rw [HEI.out]; exact List.getElem_mem _
            have h1 := LW.out.own ei hm
            refine ⟨fun e => ?_, fun e => ?_⟩
            · have := apart h1 LW.out.row (by decide)
              rcases this with h | h
              · simp [Value.ownBlock] at h
              · exact h (by simp [Value.ownBlock, e])
            · have := HLT.out ei hm
              have := HO.out
              omega
          have HCX : Hid (∀ q, q < M → ∃ z, W.drew.cell? ⟨ei.g, q, none⟩ = some z) := fun q hq => by
            have hm : ei ∈ E := by rw [HEI.out]; exact List.getElem_mem _
            have h1 := LW.out.own ei hm
            have := h1.cellAt q (by omega)
            refine ⟨_, (show W.drew.cell? ⟨ei.g, q, none⟩ = W.cell? ⟨ei.g, q, none⟩ from rfl).trans (this.trans (List.getElem?_eq_getElem ?_))⟩
            have h2 := h1.len
            rw [List.length_map, toI_len]
            omega
          have HFX : Hid (∀ q, W.drew.frozen? ⟨ei.g, q, none⟩ = false) := fun q => by
            have hm : ei ∈ E := by rw [HEI.out]; exact List.getElem_mem _
            exact (LW.out.own ei hm).frozenAt q
          have FIN : Hid (∀ A, Below W.heap.size W A → ∀ q, q < M → Tn B w (A.setCell ⟨ei.g, q, none⟩ (.int .u8 (by_ : Int))) gl cap n ms) := by
            intro A hA q hq
            have l1 := (LW.out.below hA).byte HND.out i HIE.out q by_ (by rw [← HEI.out, hMq]; exact hq)
            rw [← HEI.out] at l1
            refine Tn.of l1 ?_ ?_
            · rw [HEI.out]
              exact byte_nd HND.out i HIE.out _
            · intro e he
              rcases List.mem_or_eq_of_mem_set he with he | rfl
              · exact HBB.out e he
              · have h1 := HBB.out ei (by rw [HEI.out]; exact List.getElem_mem _)
                refine ⟨by show (ei.l.set q by_).length ≤ _; rw [List.length_set]; exact h1.1, ?_⟩
                intro z hz
                rcases List.mem_or_eq_of_mem_set hz with hz | rfl
                · exact h1.2 z hz
                · exact hby
          clear hMq
          go_wp2
          refine MixH.start (fun A => A.cell? ⟨gl, i, none⟩ = some (.slice (some ⟨ei.g, 0, none⟩) M (2 * M + 70)) ∧ A.cell? ⟨O, 1, none⟩ = some (.int .i64 at_) ∧ A.cell? ⟨O, 2, none⟩ = some (.int .u8 (by_ : Int))) (by kernel_rfl) ?_
          obtain ⟨wM, hwM⟩ : ∃ wM, wM = W.drew := ⟨_, rfl⟩
          have hS : wM.cell? ⟨gl, i, none⟩ = some (.slice (some ⟨ei.g, 0, none⟩) M (2 * M + 70)) ∧ wM.cell? ⟨O, 1, none⟩ = some (.int .i64 at_) ∧ wM.cell? ⟨O, 2, none⟩ = some (.int .u8 (by_ : Int)) := by rw [hwM]; exact ⟨ca, c1, c2⟩
          have HFM : Hid (∀ q, q < M → Tn B w (wM.setCell ⟨ei.g, q, none⟩ (.int .u8 (by_ : Int))) gl cap n ms) := by rw [hwM]; exact fun q hq => FIN.out _ (Below.refl _ _).drew q hq
          have hcx : ∀ q, q < M → ∃ z, wM.cell? ⟨ei.g, q, none⟩ = some z := by rw [hwM]; exact fun q hq => HCX.out q hq
          have hfx : ∀ q, wM.frozen? ⟨ei.g, q, none⟩ = false := by rw [hwM]; exact fun q => HFX.out q
          rw [← hwM]
          clear hwM ca c0 c1 c2 c3 FIN HCX HFX
          refine MixH.takes [true, true, true, false, true, false, true, true, true, false, false, false, true] 8 (by kernel_rfl) (by kernel_rfl) (by decide) (by kernel_rfl) hS (fun K hK => ?_)
          simp only [Mix.pick]
          repeat (go_big_quiet_step (fail))
          refine wpQuiet_nil (hK _ ?_)
          clear hK K
          refine MixH.take 7 3 _ (.slice (some ⟨ei.g, 0, none⟩) M (2 * M + 70)) rfl (by kernel_rfl) (by kernel_rfl) (by kernel_rfl) (by kernel_rfl) (yields_sl (.tmp 46) rfl gl i _ rfl rfl (fun A hA => hA.1)) hS (fun a' ha => ?_)
          simp only [Act.put, List.setIfInBounds_toArray, List.set_cons_succ, List.set_cons_zero] at ha
          subst ha
          refine MixH.take 6 5 _ (.int .i64 at_) rfl (by kernel_rfl) (by kernel_rfl) (by kernel_rfl) (by kernel_rfl) (yields_one (.tmp 48) rfl O 1 _ rfl rfl (fun A hA => hA.2.1)) hS (fun a' ha => ?_)
          simp only [Act.put, List.setIfInBounds_toArray, List.set_cons_succ, List.set_cons_zero] at ha
          subst ha
          refine MixH.take 5 9 _ (.slice (some ⟨ei.g, 0, none⟩) M (2 * M + 70)) rfl (by kernel_rfl) (by kernel_rfl) (by kernel_rfl) (by kernel_rfl) (yields_sl (.tmp 52) rfl gl i _ rfl rfl (fun A hA => hA.1)) hS (fun a' ha => ?_)
          simp only [Act.put, List.setIfInBounds_toArray, List.set_cons_succ, List.set_cons_zero] at ha
          subst ha
          refine MixH.take 4 13 _ (.int .u8 (by_ : Int)) rfl (by kernel_rfl) (by kernel_rfl) (by kernel_rfl) (by kernel_rfl) (yields_b8 (.tmp 56) rfl O 2 _ rfl rfl (fun A hA => hA.2.2)) hS (fun a' ha => ?_)
          simp only [Act.put, List.setIfInBounds_toArray, List.set_cons_succ, List.set_cons_zero] at ha
          subst ha
          refine MixH.takes [false, false, false, false, false, false, false, false, false, false, true] 3 (by kernel_rfl) (by kernel_rfl) (by decide) (by kernel_rfl) hS (fun K hK => ?_)
          simp only [Mix.pick]
          repeat (go_big_quiet_step (fail))
          refine wpQuiet_nil (hK _ ?_)
          clear hK K
          refine MixH.one [false, false, false, false, false, false, false, false, false, false, false, true] 2 11 _ rfl rfl (by kernel_rfl) (by kernel_rfl) (fun K hK => ?_)
          simp only [Mix.pick]
          go_wp2_with fail
          refine Calls.mono (place_any at_ M wM hM0 (by omega)) ?_
          rintro e' wN ⟨rfl, rfl⟩
          go_wp2
          refine ⟨rfl, hK _ _ hS ?_⟩
          clear hK K
          obtain ⟨q, hq⟩ : ∃ q, q = pl at_ M := ⟨_, rfl⟩
          have hql : q < M := by rw [hq]; exact pl_lt at_ M hM0
          rw [← hq]
          clear hq
          obtain ⟨zq, hzq⟩ := hcx q hql
          have hfq := hfx q
          have q0 : (0 : Int) ≤ (q : Int) := by omega
          have q1 : (q : Int) < (M : Int) := by omega
          have q2 : ((q : Int)).toNat = q := by omega
          have HF : Hid _ := HFM.out q hql
          clear hcx hfx HFM
          refine MixH.takes [false, false, false, false, false, false, false, false, false, false, false, false, false, false, true] 1 (by kernel_rfl) (by kernel_rfl) (by decide) (by kernel_rfl) hS (fun K hK => ?_)
          simp only [Mix.pick]
          repeat (go_big_quiet_step (fail))
          refine wpQuiet_nil (hK _ ?_)
          clear hK K
          refine MixH.one [false, false, false, false, false, false, false, false, false, false, false, false, false, false, false, true] 0 15 _ rfl rfl (by kernel_rfl) (by kernel_rfl) (fun K hK => ?_)
          simp only [Mix.pick]
          have hS2 : (wM.setCell ⟨ei.g, q, none⟩ (.int .u8 (by_ : Int))).cell? ⟨gl, i, none⟩ = some (.slice (some ⟨ei.g, 0, none⟩) M (2 * M + 70)) ∧ (wM.setCell ⟨ei.g, q, none⟩ (.int .u8 (by_ : Int))).cell? ⟨O, 1, none⟩ = some (.int .i64 at_) ∧ (wM.setCell ⟨ei.g, q, none⟩ (.int .u8 (by_ : Int))).cell? ⟨O, 2, none⟩ = some (.int .u8 (by_ : Int)) := by
            rw [cell_far2 _ _ _ _ HNE.out.1, cell_far2 _ _ _ _ HNE.out.2, cell_far2 _ _ _ _ HNE.out.2]
            exact hS
          go_wp2
          clear hS
          have hS := hS2
          refine ⟨rfl, hK _ _ hS ?_⟩
          clear hK K
          refine MixH.done (by kernel_rfl) ?_
          go_wp2
          go_end0
          exact ⟨rfl, HF.out⟩
        · have b0 : ¬ (0 : Int) < (M : Int) := by omega
          go_wp2
          go_end0
          exact ⟨rfl, Tn.of LW.out HND.out HBB.out⟩
end Go.Proofs.Ytbbhnekdejamiaa.Wd
