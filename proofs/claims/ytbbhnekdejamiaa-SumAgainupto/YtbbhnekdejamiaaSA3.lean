/-
  The statements' own stands: the list holds these parts, and the marks behind them all.
-/
import Derived.Test.YtbbhnekdejamiaaSA2
import Derived.Test.YtbbhnekdejamiaaMixH
namespace Go.Proofs.Ytbbhnekdejamiaa.Wd
open Go.RowKit
open Ap

theorem yields_row {ops : Array Oper} {o : Oper} {a : Act} {S : World → Prop} (x : Operand) (ho : o.op = .load 26 x) (b off : Nat) (u : Value) (hx : a.eval x = .pointer (some ⟨b, off, none⟩)) (hw : Region.wanted o (yielded ops a.tmps) = true) (hS : ∀ w, S w → w.cell? ⟨b, off, none⟩ = some u) : YieldsIf Try.prog ops S o u a := by
  refine .inl ⟨hw, fun w hb => ?_⟩
  have hc := hS w hb
  have hu := Try.underlying26
  obtain ⟨dst, op, type, pos, after, guard⟩ := o
  simp only at ho
  subst ho
  simp only [execOp, Sem.run_bind, Sem.run_pure]
  rw [hx]
  simp [Instr.loadAt, go_sem, hc]
set_option maxHeartbeats 3200000 in
set_option maxRecDepth 100000 in
theorem stands_l (w : World) (B gl cap n : Nat) (E : List LE) (ms : List Nat) (h : Li B w (.slice (some ⟨gl, 0, none⟩) (n + (n + 9)) cap) E ms) (hE : E.length = n) (hms : ms.length = n + 9) (pa : Option Addr) (pc : Nat) (ps : List Part) (hP : Parts w pa ps) (hl : E.map LE.l = ps.map Part.l) (hn : n ≤ 40) (h40 : ∀ e ∈ E, e.l.length ≤ 1099511627776) :
    Calls Try.prog 15 #[.slice (some ⟨gl, 0, none⟩) n cap, .slice pa n pc] w fun e w' => e = .returned (.bool true) ∧ Below w.heap.size w w' := by
  have HI : Hid (Li B w (.slice (some ⟨gl, 0, none⟩) (n + (n + 9)) cap) E ms) := h
  have HE : Hid (E.length = n) := hE
  have HM : Hid (ms.length = n + 9) := hms
  have HP : Hid (Parts w pa ps) := hP
  have HL : Hid (E.map LE.l = ps.map Part.l) := hl
  have HPN : Hid (ps.length = n) := by have := congrArg List.length hl; simp only [List.length_map] at this; rw [← this]; exact hE
  have H40 : Hid (∀ e ∈ E, e.l.length ≤ 1099511627776) := h40
  have hcap : n + (n + 9) ≤ cap := by
    have := h.row
    rw [hE, hms] at this
    exact owns_cap this
  have HR : Hid (w.ownsRow B 26 1 (.slice (some ⟨gl, 0, none⟩) (n + (n + 9)) cap) (n + (n + 9)) (E.map LE.v ++ mkV ms)) := by
    have e := h.row
    rw [hE, hms] at e
    exact e
  clear h hE hms hP hl h40
  have hnn : ((n : Int) != (n : Int)) = false := by simp
  go_enter Try.func15, Try.ntmps15
  go_wp2
  go_loopw [5] (fun ix wr => ∃ k : Nat, k ≤ n ∧ ix = .int .i64 k ∧ Below w.heap.size w wr) (fun ix _ => n - (intOf ix).toNat)
  case atStart => exact ⟨0, Nat.zero_le _, rfl, Below.refl _ _⟩
  case round =>
    obtain ⟨k, hk, rfl, hb⟩ := hrel
    by_cases hlt : k < n
    · obtain ⟨e, he⟩ : ∃ e, e = E[k]'(by rw [HE.out]; exact hlt) := ⟨_, rfl⟩
      obtain ⟨p, hp⟩ : ∃ p, p = ps[k]'(by rw [HPN.out]; exact hlt) := ⟨_, rfl⟩
      have hem : e ∈ E := by rw [he]; exact List.getElem_mem _
      have hpm : p ∈ ps := by rw [hp]; exact List.getElem_mem _
      have hel : e.l = p.l := by
        have e1 : (E.map LE.l)[k]? = some e.l := by rw [List.getElem?_map, List.getElem?_eq_getElem (by rw [HE.out]; exact hlt), he]; rfl
        have e2 : (ps.map Part.l)[k]? = some p.l := by rw [List.getElem?_map, List.getElem?_eq_getElem (by rw [HPN.out]; exact hlt), hp]; rfl
        rw [HL.out, e2] at e1
        exact (Option.some.inj e1).symm
      obtain ⟨b, off, rfl, hc⟩ : ∃ b off, pa = some ⟨b, off, none⟩ ∧ w.cell? ⟨b, off + k, none⟩ = some (.slice p.a p.l.length p.cap) := by
        rcases HP.out.1 with h0 | ⟨b, off, ha, hc⟩
        · have := HPN.out; rw [h0] at this; simp at this; omega
        · exact ⟨b, off, ha, by rw [hp]; exact hc k (by rw [HPN.out]; exact hlt)⟩
      have hbl := World.block_lt_of_cell? w _ hc
      rw [← hel] at hc
      have hcl : w.cell? ⟨gl, k, none⟩ = some (.slice (some ⟨e.g, 0, none⟩) e.l.length (2 * e.l.length + 70)) := by
        rw [HR.out.cellAt k (by omega), List.getElem?_append_left (by rw [List.length_map, HE.out]; exact hlt), List.getElem?_map, List.getElem?_eq_getElem (by rw [HE.out]; exact hlt), ← he]; rfl
      have hgl := World.block_lt_of_cell? w _ hcl
      have FC : Hid (∀ x, Below w.heap.size w x → x.cell? ⟨gl, k, none⟩ = some (.slice (some ⟨e.g, 0, none⟩) e.l.length (2 * e.l.length + 70)) ∧ x.cell? ⟨b, off + k, none⟩ = some (.slice p.a e.l.length p.cap)) := fun x hx => ⟨(hx.cell (p := ⟨gl, k, none⟩) hgl).trans hcl, (hx.cell (p := ⟨b, off + k, none⟩) hbl).trans hc⟩
      have QQ : Hid (∀ x, Below w.heap.size w x → Calls Try.prog 26 #[.slice (some ⟨e.g, 0, none⟩) e.l.length (2 * e.l.length + 70), .slice p.a e.l.length p.cap] x fun e w' => e = .returned (.bool true) ∧ Below x.heap.size x w') := fun x hx => by
        refine (stands_any e.g e.l.length (2 * e.l.length + 70) p.cap B p.a e.l x rfl rfl ((HI.out.own e hem).below hx) (by rw [hel]; exact ((HP.out.2 p hpm).1).old hx) (H40.out e hem)).mono ?_
        exact fun e w1 k => k
      have k0 : (0 : Int) ≤ (k : Int) := by omega
      have k1 : (k : Int) < (n : Int) := by omega
      have k2 : ((k : Int)).toNat = k := by omega
      clear he hp hem hpm hel hc hbl hcl hgl
      go_wp2
      refine MixH.start (fun x => Below w.heap.size w x) (by kernel_rfl) ?_
      obtain ⟨wA, hwA⟩ : ∃ wA, wA = wr.drew := ⟨_, rfl⟩
      have hS : Below w.heap.size w wA := by rw [hwA]; exact hb.drew
      rw [← hwA]
      clear hwA hb
      refine MixH.takes [true, true, true, false, true, true, true] 4 (by kernel_rfl) (by kernel_rfl) (by decide) (by kernel_rfl) hS (fun K hK => ?_)
      simp only [Mix.pick]
      repeat (go_big_quiet_step (fail))
      refine wpQuiet_nil (hK _ ?_)
      clear hK K
      refine MixH.take 3 3 _ (.slice (some ⟨e.g, 0, none⟩) e.l.length (2 * e.l.length + 70)) rfl (by kernel_rfl) (by kernel_rfl) (by kernel_rfl) (by kernel_rfl) (yields_row (.tmp 22) rfl gl k (.slice (some ⟨e.g, 0, none⟩) e.l.length (2 * e.l.length + 70)) rfl rfl (fun x h => (FC.out x h).1)) hS (fun a' ha => ?_)
      simp only [Act.put, List.setIfInBounds_toArray, List.set_cons_succ, List.set_cons_zero] at ha
      subst ha
      refine MixH.take 2 7 _ (.slice p.a e.l.length p.cap) rfl (by kernel_rfl) (by kernel_rfl) (by kernel_rfl) (by kernel_rfl) (yields_row (.tmp 26) rfl b (off + k) (.slice p.a e.l.length p.cap) rfl rfl (fun x h => (FC.out x h).2)) hS (fun a' ha => ?_)
      simp only [Act.put, List.setIfInBounds_toArray, List.set_cons_succ, List.set_cons_zero] at ha
      subst ha
      refine MixH.one [false, false, false, false, false, false, false, false, true] 1 8 _ rfl rfl (by kernel_rfl) (by kernel_rfl) (fun K hK => ?_)
      simp only [Mix.pick]
      go_wp2_with fail
      refine Calls.mono (QQ.out wA hS) ?_
      rintro e' wN ⟨rfl, hbN⟩
      have hS2 : Below w.heap.size w wN := hS.trans (hbN.mono hS.size)
      clear QQ hbN hS
      have hS := hS2
      clear hS2
      go_wp2
      refine ⟨rfl, hK _ _ hS ?_⟩
      clear hK K
      refine MixH.takes [false, false, false, false, false, false, false, false, false, true] 0 (by kernel_rfl) (by kernel_rfl) (by decide) (by kernel_rfl) hS (fun K hK => ?_)
      simp only [Mix.pick]
      repeat (go_big_quiet_step (fail))
      refine wpQuiet_nil (hK _ ?_)
      clear hK K
      refine MixH.done (by kernel_rfl) ?_
      go_wp2
      go_roundw
      case rel => exact ⟨k + 1, by omega, by go_num, hS⟩
      case measure => simp [intOf]; omega
    · have hni : ¬ ((k : Int) < (n : Int)) := by omega
      clear hlt
      have hc1 : 2 * (n : Int) + 9 ≤ (cap : Int) := by omega
      have hc2 : (0 : Int) ≤ 2 * (n : Int) + 9 := by omega
      have hc3 : (2 * (n : Int) + 9).toNat = n + (n + 9) := by omega
      go_wp2
      go_loopw [7] (fun ix wq => ∃ j : Nat, j ≤ n + 9 ∧ ix = .int .i64 j ∧ Below w.heap.size w wq) (fun ix _ => n + 9 - (intOf ix).toNat)
      case atStart => exact ⟨0, Nat.zero_le _, rfl, hb⟩
      case round =>
        obtain ⟨j, hj, rfl, hbj⟩ := hrel
        by_cases hjl : j < n + 9
        · have d1 : (j : Int) < (n : Int) + 9 := by omega
          obtain ⟨g, hg⟩ : ∃ g, ms[j]? = some g := ⟨_, List.getElem?_eq_getElem (by rw [HM.out]; exact hjl)⟩
          have hcl : w.cell? ⟨gl, n + j, none⟩ = some (.slice (some ⟨g, 0, none⟩) 2 2) := by
            rw [HR.out.cellAt (n + j) (by omega), List.getElem?_append_right (by rw [List.length_map, HE.out]; omega), List.length_map, HE.out, Nat.add_sub_cancel_left, mkV, List.getElem?_map, hg]; rfl
          have hgl := World.block_lt_of_cell? w _ hcl
          have c0 : wr.cell? ⟨gl, n + j, none⟩ = some (.slice (some ⟨g, 0, none⟩) 2 2) := (hbj.cell (p := ⟨gl, n + j, none⟩) hgl).trans hcl
          have om := (HI.out.mks j g hg).below hbj
          have m0 : wr.cell? ⟨g, 0, none⟩ = some (.int .u8 ((j % 256 : Nat) : Int)) := by rw [om.cellAt 0 (by omega)]; simp [toI]
          have m1 : wr.cell? ⟨g, 1, none⟩ = some (.int .u8 7) := by rw [om.cellAt 1 (by omega)]; simp [toI]
          have hx2 := u8_of j
          obtain ⟨x, hx⟩ : ∃ x, x = j % 256 := ⟨_, rfl⟩
          rw [← hx] at m0 hx2
          have hxx : ((x : Int) != (x : Int)) = false := by simp
          have i0 : (0 : Int) ≤ (n : Int) + (j : Int) := by omega
          have i1 : (n : Int) + (j : Int) < 2 * (n : Int) + 9 := by omega
          have i2 : ((n : Int) + (j : Int)).toNat = n + j := by omega
          clear hcl hgl om hg hx
          go_wp2
          go_roundw
          case rel => exact ⟨j + 1, by omega, by go_num, hbj⟩
          case measure => simp [intOf]; omega
        · have d1 : ¬ ((j : Int) < (n : Int) + 9) := by omega
          go_wp2
          go_ret
          exact ⟨rfl, hbj⟩
end Go.Proofs.Ytbbhnekdejamiaa.Wd
