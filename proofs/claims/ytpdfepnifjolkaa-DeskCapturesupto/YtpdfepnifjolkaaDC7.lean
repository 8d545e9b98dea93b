/-
  Layer 20, captures: lists of frames held against one another; what is read is written as it was.
-/
import Derived.Test.YtpdfepnifjolkaaDC6
namespace Go.Proofs.Ytpdfepnifjolkaa
open Go.RowKit Go.ChangeShapes Go.WideShapes

theorem Caps.inn {w : World} {base : Nat} {v : Value} {L : List CE} (h : Caps w base v L) (h256 : ∀ c ∈ L, ∀ x ∈ c.d, x < 256) : ∃ va vc, v = .slice va L.length vc ∧ CapsIn w va L := by
  refine h.l.listG (ok := fun c => Seg .u8 w c.a (toI c.d) ∧ ∀ x ∈ c.d, x < 256) ceL_len (fun c hc => ⟨?_, h256 c hc⟩)
  have h1 := h.d c hc
  obtain ⟨a', c', e, hs⟩ := owns_seg h1
  unfold CE.v at e
  simp only [Value.slice.injEq] at e
  rw [e.1]; exact hs.1
theorem yields_conv {ops : Array Oper} {o : Oper} {a : Act} {S : World → Prop} (x : Operand) (ho : o.op = .convert 22 9 x) (ad : Option Addr) (n c : Nat) (l : List Nat) (s : ByteArray) (hx : a.eval x = .slice ad n c) (hn : l.length = n) (hs : s = strOf l) (h256 : ∀ x ∈ l, x < 256) (hw : Region.wanted o (yielded ops a.tmps) = true) (hS : ∀ w, S w → Seg .u8 w ad (toI l)) : YieldsIf Try.prog ops S o (.string s) a := by
  refine .inl ⟨hw, fun w hb => ?_⟩
  have hc := conv_any w ad c l (hS w hb) h256
  rw [hn, ← hs] at hc
  obtain ⟨dst, op, type, pos, after, guard⟩ := o
  simp only at ho
  subst ho
  simp only [execOp, Sem.run_bind, hx, hc, Result.andThen_ok]
  rfl
set_option maxHeartbeats 1600000 in
set_option maxRecDepth 100000 in
theorem same_true (w : World) (la lb : Option Addr) (n ca cb : Nat) (X Y : List CE) (hx : CapsIn w la X) (hy : CapsIn w lb Y) (hn : X.length = n) (hXY : X.map cvt = Y.map cvt) (hn2 : n ≤ 1000000000000) : Calls Try.prog 8 #[.slice la n ca, .slice lb n cb] w fun e w' => e = .returned (.bool true) ∧ Below w.heap.size w w' := by
  have HS : Hid (CapsIn w la X ∧ CapsIn w lb Y ∧ X.length = n ∧ X.map cvt = Y.map cvt ∧ Y.length = n) := ⟨hx, hy, hn, hXY, by have h1 := congrArg List.length hXY; rw [List.length_map, List.length_map] at h1; omega⟩
  clear hx hy hn hXY
  go_enter Try.func8, Try.ntmps8
  go_wp2_with fail
  go_loopw [5] (fun ix wr => ∃ k : Nat, ix = .int .i64 (k : Nat) ∧ k ≤ n ∧ Hid (Below w.heap.size w wr)) (fun ix _ => n - (intOf ix).toNat)
  case atStart => exact ⟨0, rfl, Nat.zero_le _, Below.refl _ _⟩
  case round =>
    obtain ⟨k, rfl, hk, HI⟩ := hrel
    by_cases hin : k < n
    · have p1 : decide ((k : Int) < (n : Int)) = true := decide_eq_true (by omega)
      have p2 : decide (k < n) = true := decide_eq_true hin
      have i0 : (0 : Int) ≤ (k : Int) := by omega
      have i1 : (k : Int) < (n : Int) := by omega
      have i2 : ((k : Int)).toNat = k := by omega
      have wk1 : IntKind.i64.wrap ((k : Int) + 1) = (k : Int) + 1 := i64_s _ (by omega) (by omega)
      obtain ⟨x, hx⟩ : ∃ c, X[k]? = some c := ⟨_, List.getElem?_eq_getElem (by rw [HS.out.2.2.1]; exact hin)⟩
      obtain ⟨y, hy⟩ : ∃ c, Y[k]? = some c := ⟨_, List.getElem?_eq_getElem (by rw [HS.out.2.2.2.2]; exact hin)⟩
      have hxy : cvt x = cvt y := by
        have h1 := congrArg (fun l => l[k]?) HS.out.2.2.2.1
        simpa [List.getElem?_map, hx, hy] using h1
      obtain ⟨⟨hsga, h256⟩, ba, offa, rfl, hlta, hca⟩ := ListG.at HS.out.1 k x hx
      obtain ⟨⟨hsgb, _⟩, bb, offb, rfl, hltb, hcb⟩ := ListG.at HS.out.2.1 k y hy
      simp only [cvt, Prod.mk.injEq] at hxy
      obtain ⟨e0, e1, e2, e3⟩ := hxy
      obtain ⟨tk, htk⟩ : ∃ v, x.tk = v := ⟨_, rfl⟩
      obtain ⟨pt, hpt⟩ : ∃ v, x.pt = v := ⟨_, rfl⟩
      obtain ⟨ou, hou⟩ : ∃ v, x.ou = v := ⟨_, rfl⟩
      obtain ⟨d, hd⟩ : ∃ v, x.d = v := ⟨_, rfl⟩
      rw [htk] at e0
      rw [hpt] at e1
      rw [hou] at e2
      rw [hd] at e3 hsga h256
      rw [← e3] at hsgb
      obtain ⟨m, hm⟩ : ∃ m, d.length = m := ⟨_, rfl⟩
      obtain ⟨s, hs⟩ : ∃ s, s = strOf d := ⟨_, rfl⟩
      have HCa : Hid (∀ A : World, Below w.heap.size w A → A.cell? ⟨ba, offa + k * 4, none⟩ = some (.int .i64 tk) ∧ A.cell? ⟨ba, offa + k * 4 + 1, none⟩ = some (.int .i64 pt) ∧ A.cell? ⟨ba, offa + k * 4 + 2, none⟩ = some (.bool ou) ∧ A.cell? ⟨ba, offa + k * 4 + 3, none⟩ = some (.slice x.a m x.cap)) := fun A hA => by
        have hx := fun j hj => (hA.cell (p := ⟨ba, offa + k * 4 + j, none⟩) hlta).trans (hca j hj)
        refine ⟨?_, ?_, ?_, ?_⟩
        · have := hx 0 (by decide); rw [← htk]; exact this
        · have := hx 1 (by decide); rw [← hpt]; exact this
        · have := hx 2 (by decide); rw [← hou]; exact this
        · have := hx 3 (by decide); rw [← hm, ← hd]; exact this
      have HCb : Hid (∀ A : World, Below w.heap.size w A → A.cell? ⟨bb, offb + k * 4, none⟩ = some (.int .i64 tk) ∧ A.cell? ⟨bb, offb + k * 4 + 1, none⟩ = some (.int .i64 pt) ∧ A.cell? ⟨bb, offb + k * 4 + 2, none⟩ = some (.bool ou) ∧ A.cell? ⟨bb, offb + k * 4 + 3, none⟩ = some (.slice y.a m y.cap)) := fun A hA => by
        have hx := fun j hj => (hA.cell (p := ⟨bb, offb + k * 4 + j, none⟩) hltb).trans (hcb j hj)
        refine ⟨?_, ?_, ?_, ?_⟩
        · have := hx 0 (by decide); rw [e0]; exact this
        · have := hx 1 (by decide); rw [e1]; exact this
        · have := hx 2 (by decide); rw [e2]; exact this
        · have := hx 3 (by decide); rw [← hm, e3]; exact this
      have HSG : Hid ((∀ A : World, Below w.heap.size w A → Seg .u8 A x.a (toI d)) ∧ (∀ A : World, Below w.heap.size w A → Seg .u8 A y.a (toI d)) ∧ d.length = m ∧ s = strOf d ∧ ∀ z ∈ d, z < 256) := ⟨fun A hA => hsga.old hA, fun A hA => hsgb.old hA, hm, hs, h256⟩
      clear hsga hsgb h256 hca hcb hlta hltb htk hpt hou hd hm hs e0 e1 e2 e3 hx hy
      go_upto_region 6 with fail
      refine MixH.start (fun A => Below w.heap.size w A) (by kernel_rfl) ?_
      obtain ⟨wA, hwA⟩ : ∃ W_, W_ = wr.drew := ⟨_, rfl⟩
      have bdr : Below wr.heap.size wr wA := by rw [hwA]; exact (Below.refl _ _).drew
      have hS : Below w.heap.size w wA := HI.out.trans (bdr.mono HI.out.size)
      rw [← hwA]
      clear hwA bdr
      refine MixH.takes [true, true, true, true, false, true, true, true, true] 44 (by kernel_rfl) (by kernel_rfl) (by decide) (by kernel_rfl) hS (fun K hK => ?_)
      simp only [Mix.pick]
      repeat (go_big_quiet_step (fail))
      refine wpQuiet_nil (hK _ ?_)
      clear hK K
      refine MixH.take 43 4 _ (.int .i64 tk) rfl (by kernel_rfl) (by kernel_rfl) (by kernel_rfl) (by kernel_rfl) (yields_int (.tmp 20) rfl ⟨ba, offa + k * 4, none⟩ (.int .i64 tk) rfl rfl (fun A hA => (HCa.out A hA).1)) hS (fun a' ha => ?_)
      simp only [Act.put, List.setIfInBounds_toArray, List.set_cons_succ, List.set_cons_zero] at ha
      subst ha
      refine MixH.take 42 9 _ (.int .i64 tk) rfl (by kernel_rfl) (by kernel_rfl) (by kernel_rfl) (by kernel_rfl) (yields_int (.tmp 25) rfl ⟨bb, offb + k * 4, none⟩ (.int .i64 tk) rfl rfl (fun A hA => (HCb.out A hA).1)) hS (fun a' ha => ?_)
      simp only [Act.put, List.setIfInBounds_toArray, List.set_cons_succ, List.set_cons_zero] at ha
      subst ha
      refine MixH.takes [false, false, false, false, false, false, false, false, false, false, true, true, true, true, true, true, false, true, true, true, true] 32 (by kernel_rfl) (by kernel_rfl) (by decide) (by kernel_rfl) hS (fun K hK => ?_)
      simp only [Mix.pick]
      repeat (go_big_quiet_step (fail))
      refine wpQuiet_nil (hK _ ?_)
      clear hK K
      refine MixH.take 31 16 _ (.int .i64 pt) rfl (by kernel_rfl) (by kernel_rfl) (by kernel_rfl) (by kernel_rfl) (yields_int (.tmp 32) rfl ⟨ba, offa + k * 4 + 1, none⟩ (.int .i64 pt) rfl rfl (fun A hA => (HCa.out A hA).2.1)) hS (fun a' ha => ?_)
      simp only [Act.put, List.setIfInBounds_toArray, List.set_cons_succ, List.set_cons_zero] at ha
      subst ha
      refine MixH.take 30 21 _ (.int .i64 pt) rfl (by kernel_rfl) (by kernel_rfl) (by kernel_rfl) (by kernel_rfl) (yields_int (.tmp 37) rfl ⟨bb, offb + k * 4 + 1, none⟩ (.int .i64 pt) rfl rfl (fun A hA => (HCb.out A hA).2.1)) hS (fun a' ha => ?_)
      simp only [Act.put, List.setIfInBounds_toArray, List.set_cons_succ, List.set_cons_zero] at ha
      subst ha
      refine MixH.takes [false, false, false, false, false, false, false, false, false, false, false, false, false, false, false, false, false, false, false, false, false, false, true, true, true, true, true, true, true, false, true, true, true, true] 19 (by kernel_rfl) (by kernel_rfl) (by decide) (by kernel_rfl) hS (fun K hK => ?_)
      simp only [Mix.pick]
      repeat (go_big_quiet_step (fail))
      refine wpQuiet_nil (hK _ ?_)
      clear hK K
      refine MixH.take 18 29 _ (.bool ou) rfl (by kernel_rfl) (by kernel_rfl) (by kernel_rfl) (by kernel_rfl) (yields_bool (.tmp 45) rfl ⟨ba, offa + k * 4 + 2, none⟩ (.bool ou) rfl rfl (fun A hA => (HCa.out A hA).2.2.1)) hS (fun a' ha => ?_)
      simp only [Act.put, List.setIfInBounds_toArray, List.set_cons_succ, List.set_cons_zero] at ha
      subst ha
      refine MixH.take 17 34 _ (.bool ou) rfl (by kernel_rfl) (by kernel_rfl) (by kernel_rfl) (by kernel_rfl) (yields_bool (.tmp 50) rfl ⟨bb, offb + k * 4 + 2, none⟩ (.bool ou) rfl rfl (fun A hA => (HCb.out A hA).2.2.1)) hS (fun a' ha => ?_)
      simp only [Act.put, List.setIfInBounds_toArray, List.set_cons_succ, List.set_cons_zero] at ha
      subst ha
      refine MixH.takes [false, false, false, false, false, false, false, false, false, false, false, false, false, false, false, false, false, false, false, false, false, false, false, false, false, false, false, false, false, false, false, false, false, false, false, true, true, true, true, true, true, true, false, false, true, true, true, true] 6 (by kernel_rfl) (by kernel_rfl) (by decide) (by kernel_rfl) hS (fun K hK => ?_)
      simp only [Mix.pick]
      repeat (go_big_quiet_step (fail))
      refine wpQuiet_nil (hK _ ?_)
      clear hK K
      refine MixH.take 5 42 _ (.slice x.a m x.cap) rfl (by kernel_rfl) (by kernel_rfl) (by kernel_rfl) (by kernel_rfl) (yields_row (.tmp 58) rfl ⟨ba, offa + k * 4 + 3, none⟩ (.slice x.a m x.cap) rfl rfl (fun A hA => (HCa.out A hA).2.2.2)) hS (fun a' ha => ?_)
      simp only [Act.put, List.setIfInBounds_toArray, List.set_cons_succ, List.set_cons_zero] at ha
      subst ha
      refine MixH.take 4 43 _ (.string s) rfl (by kernel_rfl) (by kernel_rfl) (by kernel_rfl) (by kernel_rfl) (yields_conv (.tmp 59) rfl x.a m x.cap d s rfl HSG.out.2.2.1 HSG.out.2.2.2.1 HSG.out.2.2.2.2 rfl (fun A hA => HSG.out.1 A hA)) hS (fun a' ha => ?_)
      simp only [Act.put, List.setIfInBounds_toArray, List.set_cons_succ, List.set_cons_zero] at ha
      subst ha
      refine MixH.take 3 48 _ (.slice y.a m y.cap) rfl (by kernel_rfl) (by kernel_rfl) (by kernel_rfl) (by kernel_rfl) (yields_row (.tmp 64) rfl ⟨bb, offb + k * 4 + 3, none⟩ (.slice y.a m y.cap) rfl rfl (fun A hA => (HCb.out A hA).2.2.2)) hS (fun a' ha => ?_)
      simp only [Act.put, List.setIfInBounds_toArray, List.set_cons_succ, List.set_cons_zero] at ha
      subst ha
      refine MixH.take 2 49 _ (.string s) rfl (by kernel_rfl) (by kernel_rfl) (by kernel_rfl) (by kernel_rfl) (yields_conv (.tmp 65) rfl y.a m y.cap d s rfl HSG.out.2.2.1 HSG.out.2.2.2.1 HSG.out.2.2.2.2 rfl (fun A hA => HSG.out.2.1 A hA)) hS (fun a' ha => ?_)
      simp only [Act.put, List.setIfInBounds_toArray, List.set_cons_succ, List.set_cons_zero] at ha
      subst ha
      refine MixH.takes [false, false, false, false, false, false, false, false, false, false, false, false, false, false, false, false, false, false, false, false, false, false, false, false, false, false, false, false, false, false, false, false, false, false, false, false, false, false, false, false, false, false, false, false, false, false, false, false, false, false, true, true] 0 (by kernel_rfl) (by kernel_rfl) (by decide) (by kernel_rfl) hS (fun K hK => ?_)
      simp only [Mix.pick]
      repeat (go_big_quiet_step (fail))
      refine wpQuiet_nil (hK _ ?_)
      clear hK K
      refine MixH.done (by kernel_rfl) ?_

      have HF : Hid (Below w.heap.size w wA) := hS
      clear hS
      go_wp2
      go_roundw
      case rel => exact ⟨k + 1, by go_num, by omega, HF.out⟩
      case measure => simp [intOf]; omega
    · have p1 : decide ((k : Int) < (n : Int)) = false := decide_eq_false (by omega)
      have p2 : decide (k < n) = false := decide_eq_false hin
      clear hin
      go_wp2
      go_ret
      exact ⟨rfl, HI.out⟩
end Go.Proofs.Ytpdfepnifjolkaa
