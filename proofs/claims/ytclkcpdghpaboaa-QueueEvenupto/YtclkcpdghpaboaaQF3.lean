/-
  Layer 18: join.
-/
import Derived.Test.YtclkcpdghpaboaaQF2
namespace Go.Proofs.Ytclkcpdghpaboaa
open Go.RowKit

theorem mod_ne (f k l n : Nat) (hf : f < n) (hk : k < l) (hl : l < n) : (f + k) % n ≠ (f + l) % n := by
  rw [mod_two f k n hf (by omega), mod_two f l n hf (by omega)]
  split <;> split <;> omega
/-- one more in the line, laid into the slot behind the last -/
def joined (m : CM) (x : Int × Int) : CM := ⟨⟨m.c.li, m.c.L ++ [x], m.c.tk⟩, m.v, m.f, m.S.set ((m.f + m.c.L.length) % m.S.length) x, m.b⟩
theorem joined_ok {w w' : World} {m : CM} {x : Int × Int} (h : LnOk w m) (hl : m.c.L.length < m.S.length) (hg : GL 2 itL 119 w' 0 m.v (m.S.set ((m.f + m.c.L.length) % m.S.length) x)) : LnOk w' (joined m x) := by
  have hf : m.f < m.S.length := h.fl.resolve_right (fun e => by omega)
  refine ⟨hg, ?_, ?_, fun k hk => ?_, ?_, fun e => ?_⟩
  · show m.f < (m.S.set _ x).length ∨ _
    rw [List.length_set]; exact .inl hf
  · show (m.c.L ++ [x]).length ≤ (m.S.set _ x).length
    rw [List.length_set, List.length_append]; simp; omega
  · show (m.S.set _ x)[(m.f + k) % (m.S.set _ x).length]? = (m.c.L ++ [x])[k]?
    have hk' : k < m.c.L.length + 1 := by have : k < (m.c.L ++ [x]).length := hk; simpa using this
    rw [List.length_set]
    by_cases e : k = m.c.L.length
    · subst e
      rw [List.getElem?_set_self (Nat.mod_lt _ (by omega))]
      simp
    · rw [List.getElem?_set_ne (mod_ne m.f k m.c.L.length m.S.length hf (by omega) hl).symm, List.getElem?_append_left (by omega)]
      exact h.at' k (by omega)
  · show (m.S.set _ x).length ≤ _
    rw [List.length_set]; exact h.nb
  · have e' : (m.S.set _ x).length = 0 := e
    rw [List.length_set] at e'
    omega
theorem joined_cells (m : CM) (x : Int × Int) : (cmL m).set 7 (.int .i64 ((m.c.L.length : Int) + 1)) = cmL (joined m x) := by
  have e : (((m.c.L ++ [x]).length : Nat) : Int) = (m.c.L.length : Int) + 1 := by simp
  unfold joined cmL cmA
  simp only [e]
  rfl
theorem set_same {ms : List CM} {i : Nat} {m : CM} (h : i < ms.length) : (ms.set i m)[i]? = some m := List.getElem?_set_self h
theorem run_bit (x0 : Int) (x1 : Int) (w : World) : (Instr.build 119 #[(0, .int .i64 x0), (1, .int .i64 x1)]).run Try.prog w = .ok (.agg (itA (x0, x1))) w := by kernel_rfl
theorem wpList_bit {ops : Array Oper} {rest : List Oper} {o : Oper} {a_ : Act} {w : World} {Q : Exit → Act → World → Prop} (y0 y1 : Operand) (ho : o.op = .build 119 #[(0, y0), (1, y1)]) (x0 : Int) (x1 : Int) (h0 : a_.eval y0 = .int .i64 x0) (h1 : a_.eval y1 = .int .i64 x1) (hw : Region.wanted o (yielded ops a_.tmps) = true)
    (h : wpList Try.prog ops Q rest (a_.put o.dst (.agg (itA (x0, x1)))) w) : wpList Try.prog ops Q (o :: rest) a_ w := by
  refine wpList_step fun K hK => ?_
  rw [if_pos hw]
  have hrun : (execOp a_.eval o).run Try.prog w = .ok (.value (.agg (itA (x0, x1)))) w := by
    obtain ⟨dst, op, type, pos, after, guard⟩ := o
    simp only at ho
    subst ho
    simp only [execOp, Sem.run_bind, List.map_toArray, List.map_cons, List.map_nil, h0, h1, run_bit x0 x1 w, Result.andThen_ok]
    rfl
  unfold Oper.wp
  rw [hrun]
  exact hK _ _ h
theorem ItmAt.all {w : World} {O : Nat} {x : Int × Int} (h : ItmAt w O x) : w.rangeAt O 0 (itA x).toList := by
  have e := ItmAt.range h 0 (itA x).size
  rwa [Nat.zero_add, Array.extract_size] at e
section
variable (w : World) (P G : Nat) (ms : List CM) (t : TN) (h : QA w P G ms t) (i : Nat) (m : CM) (hi : ms[i]? = some m)
include h hi
set_option maxHeartbeats 1600000 in
set_option maxRecDepth 100000 in
theorem joinL_any (x : Int × Int) (hl : m.c.L.length ≤ 4095) : Calls Try.prog 58 #[.pointer (some ⟨G, i * 10 + 5, none⟩), .agg (itA x)] w fun e w' => ∃ m', e = .returned (.tuple #[]) ∧ QA w' P G (ms.set i m') t ∧ m'.c = ⟨m.c.li, m.c.L ++ [x], m.c.tk⟩ ∧ m'.b = m.b ∧ Ch (fun q => q = G ∨ m.v.ownBlock = some q) w w' ∧ (∀ q, m'.v.ownBlock = some q → m.v.ownBlock = some q ∨ w.heap.size ≤ q) := by
  have hlo := h.ln m (List.mem_of_getElem? hi)
  have HQ0 : Hid (QA w P G ms t ∧ ms[i]? = some m ∧ m.c.L.length ≤ 4095 ∧ LnOk w m) := ⟨h, hi, hl, hlo⟩
  clear h hi hl hlo
  have hb := itm_new w x
  have bel : Below w.heap.size w (w.alloc (.cells (itA x) 119)) := (Below.refl _ _).alloc (Nat.le_refl _) _
  obtain ⟨CX, hC⟩ : ∃ C, C = itA x := ⟨_, rfl⟩
  obtain ⟨W, hW⟩ : ∃ W_, W_ = w.alloc (.cells (itA x) 119) := ⟨_, rfl⟩
  rw [← hW] at hb bel
  have HSZX : Hid (W.heap.size = w.heap.size + 1) := by show _ = _; rw [hW, World.size_alloc]
  obtain ⟨B, hB⟩ : ∃ B, B = w.heap.size := ⟨_, rfl⟩
  rw [← hB] at hb
  have HBX : Hid (ItmAt W B x) := hb
  rw [← hC] at hW ⊢
  have HOX : Hid (w.heap.size = B) := hB.symm
  have HLX : Hid (Below w.heap.size w W) := bel
  have HWX : Hid (w.alloc (.cells CX 119) = W) := hW.symm
  clear hb hW hB hC bel

  have HQ : Hid (QA W P G ms t ∧ LnOk W m) := ⟨HQ0.out.1.below HLX.out, HQ0.out.2.2.2.ch (Ch.ofBelow (S := fun _ => False) HLX.out) (fun _ _ => id)⟩
  obtain ⟨nn, hnn⟩ : ∃ nn, nn = m.S.length := ⟨_, rfl⟩
  obtain ⟨ll, hll⟩ : ∃ ll, ll = m.c.L.length := ⟨_, rfl⟩
  obtain ⟨va, vc, hvv⟩ := HQ.out.2.own.form
  rw [← hnn] at hvv
  have HLL : Hid (m.v = .slice va nn vc ∧ m.S.length = nn ∧ m.c.L.length = ll) := ⟨hvv, hnn.symm, hll.symm⟩
  have hle : ll ≤ nn := by have := HQ.out.2.ql; omega
  clear hvv hnn hll
  go_enter Try.func58, Try.ntmps58
  go_upto_region 1 with fail
  rw [HOX.out, HWX.out]
  refine MixH.start (fun A => A.rangeAt G (i * 10) (cmL m)) (by kernel_rfl) ?_
  obtain ⟨wA, hwA⟩ : ∃ W_, W_ = W.drew := ⟨_, rfl⟩
  have bdr : Below W.heap.size W wA := by rw [hwA]; exact (Below.refl _ _).drew
  have HA : Hid (QA wA P G ms t ∧ Below w.heap.size w wA ∧ ItmAt wA B x ∧ LnOk wA m) := ⟨HQ.out.1.below bdr, bthen HLX.out bdr, HBX.out.below bdr, HQ.out.2.ch (Ch.ofBelow (S := fun _ => False) bdr) (fun _ _ => id)⟩
  have hS : wA.rangeAt G (i * 10) (cmL m) := HA.out.1.cells HQ0.out.2.1
  rw [← hwA]
  clear hwA bdr
  refine MixH.takes [true, true, true, false, true, true, true] 4 (by kernel_rfl) (by kernel_rfl) (by decide) (by kernel_rfl) hS (fun K hK => ?_)
  simp only [Mix.pick]
  repeat (go_big_quiet_step (fail))
  refine wpQuiet_nil (hK _ ?_)
  clear hK K
  refine MixH.take 3 3 _ (.int .i64 (ll : Int)) rfl (by kernel_rfl) (by kernel_rfl) (by kernel_rfl) (by kernel_rfl) (yields_int (.tmp 6) rfl ⟨G, i * 10 + 7, none⟩ (.int .i64 (ll : Int)) rfl rfl (fun A hA => (hA 7 _ rfl).trans (by rw [HLL.out.2.2]))) hS (fun a' ha => ?_)
  simp only [Act.put, List.setIfInBounds_toArray, List.set_cons_succ, List.set_cons_zero] at ha
  subst ha
  refine MixH.take 2 7 _ (.slice va nn vc) rfl (by kernel_rfl) (by kernel_rfl) (by kernel_rfl) (by kernel_rfl) (yields_its (.tmp 10) rfl ⟨G, i * 10 + 5, none⟩ (.slice va nn vc) rfl rfl (fun A hA => (hA 5 _ rfl).trans (by rw [HLL.out.1]))) hS (fun a' ha => ?_)
  simp only [Act.put, List.setIfInBounds_toArray, List.set_cons_succ, List.set_cons_zero] at ha
  subst ha
  refine MixH.takes [false, false, false, false, false, false, false, false, true, true] 0 (by kernel_rfl) (by kernel_rfl) (by decide) (by kernel_rfl) hS (fun K hK => ?_)
  simp only [Mix.pick]
  repeat (go_big_quiet_step (fail))
  refine wpQuiet_nil (hK _ ?_)
  clear hK K
  refine MixH.done (by kernel_rfl) ?_

  clear hS
  by_cases he : ll = nn
  · have q1 : ((ll : Int) == (nn : Int)) = true := by simp [he]
    have HN : Hid (ll = nn) := he
    have QW : Hid _ := widen_any wA P G ms t HA.out.1 i m HQ0.out.2.1 (by rw [HLL.out.2.2, HLL.out.2.1]; exact he) (by have := HQ0.out.2.2.1; rw [HLL.out.2.2] at this; rw [HLL.out.2.1]; omega)
    clear hle he
    go_upto_region 2 with fail
    go_wp2_with fail
    refine Calls.mono QW.out ?_
    rintro e2 w2 ⟨H, rfl, hq2, k2', hH1, hH2⟩
    have HT : Hid (QA w2 P G (ms.set i (widened m H)) t ∧ (ms.set i (widened m H))[i]? = some (widened m H) ∧ ItmAt w2 B x ∧ (widened m H).c.L.length < (widened m H).S.length) := by
      refine ⟨hq2, set_same (List.getElem?_eq_some_iff.1 HQ0.out.2.1).1, HA.out.2.2.1.ch k2' (fun e => ?_), ?_⟩
      · have h1 := HA.out.1.gk.1; have h2 := HQ0.out.1.gk.1; have h3 := HOX.out; omega
      · rw [wd_len m (by rw [HLL.out.2.2, HLL.out.2.1]; exact HN.out) H]
        show m.c.L.length < wd m.S.length
        rw [HLL.out.2.2, HLL.out.2.1, HN.out]
        unfold wd
        split <;> omega
    have HBN : Hid (∀ q, (widened m H).v.ownBlock = some q → q ≠ B) := fun q hq e => by
      have e1 : some H = some q := hq
      simp only [Option.some.injEq] at e1
      have h3 := HOX.out
      have h4 := HA.out.2.1.size
      have h5 := HA.out.2.2.1.lt
      omega
    have HLN : Hid ((widened m H).c.L.length < (widened m H).S.length) := HT.out.2.2.2
    have HW2 : Hid (Ch (fun q => q = G) w w2 ∧ w.heap.size ≤ H) := ⟨(Ch.ofBelow HA.out.2.1).trans k2' (fun _ _ e => e), Nat.le_trans HA.out.2.1.size hH1⟩
    clear hq2 k2' hH1 hH2 QW HA q1
    have hlo := HT.out.1.ln (widened m H) (List.mem_of_getElem? HT.out.2.1)
    have HLO : Hid (LnOk w2 (widened m H)) := hlo
    obtain ⟨n, hn⟩ : ∃ n, n = (widened m H).S.length := ⟨_, rfl⟩
    obtain ⟨f, hfe⟩ : ∃ f, f = (widened m H).f := ⟨_, rfl⟩
    obtain ⟨l, hle⟩ : ∃ l, l = (widened m H).c.L.length := ⟨_, rfl⟩
    have hln : l < n := by have := HT.out.2.2.2; omega
    have hf : f < n := by rcases hlo.fl with e | e <;> omega
    have hnb := hlo.nb
    rw [← hn] at hnb
    obtain ⟨y, hy⟩ : ∃ y, (widened m H).S[0]? = some y := ⟨_, List.getElem?_eq_getElem (by omega)⟩
    obtain ⟨g, cap, hv, x1, x2, x3⟩ := hlo.own.at itL_len 0 y hy
    clear x1 x2 x3
    rw [← hn] at hv
    obtain ⟨k, hk⟩ : ∃ k, k = (f + l) % n := ⟨_, rfl⟩
    have hkn : k < n := by rw [hk]; exact Nat.mod_lt _ (by omega)
    have hkT : Int.tmod ((f : Int) + (l : Int)) (n : Int) = (k : Int) := by rw [Int.tmod_eq_emod_of_nonneg (by omega), hk]; simp
    have HV : Hid ((widened m H).v = .slice (some ⟨g, 0, none⟩) n cap ∧ (widened m H).f = f ∧ (widened m H).c.L.length = l ∧ (widened m H).S.length = n ∧ k = ((widened m H).f + (widened m H).c.L.length) % (widened m H).S.length) := ⟨hv, hfe.symm, hle.symm, hn.symm, by rw [← hn, ← hfe, ← hle]; exact hk⟩
    have wA1 : IntKind.i64.wrap ((f : Int) + (l : Int)) = (f : Int) + (l : Int) := i64_s _ (by omega) (by omega)
    have wA2 : IntKind.i64.wrap ((l : Int) + 1) = (l : Int) + 1 := i64_s _ (by omega) (by omega)
    have n0 : ((n : Int) == 0) = false := beq_eq_false_iff_ne.2 (by omega)
    have k0 : (0 : Int) ≤ (k : Int) := by omega
    have k1 : (k : Int) < (n : Int) := by omega
    have k2 : ((k : Int)).toNat = k := by omega
    have HOWN : Hid (GL 2 itL 119 w2 0 (.slice (some ⟨g, 0, none⟩) n cap) (widened m H).S) := by have h1 := hlo.own; rw [hv] at h1; exact h1
    have HKN : Hid (k < n) := hkn
    clear hlo hn hfe hle hy hv hk hf hln hkn
    go_upto_region 3 with fail
    refine MixH.start (fun A => A.rangeAt G (i * 10) (cmL (widened m H)) ∧ ItmAt A B x) (by kernel_rfl) ?_
    obtain ⟨wB, hwA⟩ : ∃ W_, W_ = w2.drew := ⟨_, rfl⟩
    have bdr : Below w2.heap.size w2 wB := by rw [hwA]; exact (Below.refl _ _).drew
    have HB : Hid (QA wB P G (ms.set i (widened m H)) t ∧ GL 2 itL 119 wB 0 (.slice (some ⟨g, 0, none⟩) n cap) (widened m H).S ∧ Below w2.heap.size w2 wB) := ⟨HT.out.1.below bdr, HOWN.out.below bdr, bdr⟩
    have hS : wB.rangeAt G (i * 10) (cmL (widened m H)) ∧ ItmAt wB B x := ⟨HB.out.1.cells HT.out.2.1, HT.out.2.2.1.below bdr⟩
    rw [← hwA]
    clear hwA bdr
    refine MixH.takes [true, true, true, false, true, true, true, false, true, true, true, false, false, true, true, true] 10 (by kernel_rfl) (by kernel_rfl) (by decide) (by kernel_rfl) hS (fun K hK => ?_)
    simp only [Mix.pick]
    repeat (go_big_quiet_step (fail))
    refine wpQuiet_nil (hK _ ?_)
    clear hK K
    refine MixH.take 9 3 _ (.slice (some ⟨g, 0, none⟩) n cap) rfl (by kernel_rfl) (by kernel_rfl) (by kernel_rfl) (by kernel_rfl) (yields_its (.tmp 18) rfl ⟨G, i * 10 + 5, none⟩ (.slice (some ⟨g, 0, none⟩) n cap) rfl rfl (fun A hA => (hA.1 5 _ rfl).trans (by rw [HV.out.1]))) hS (fun a' ha => ?_)
    simp only [Act.put, List.setIfInBounds_toArray, List.set_cons_succ, List.set_cons_zero] at ha
    subst ha
    refine MixH.take 8 7 _ (.int .i64 (f : Int)) rfl (by kernel_rfl) (by kernel_rfl) (by kernel_rfl) (by kernel_rfl) (yields_int (.tmp 22) rfl ⟨G, i * 10 + 6, none⟩ (.int .i64 (f : Int)) rfl rfl (fun A hA => (hA.1 6 _ rfl).trans (by rw [HV.out.2.1]))) hS (fun a' ha => ?_)
    simp only [Act.put, List.setIfInBounds_toArray, List.set_cons_succ, List.set_cons_zero] at ha
    subst ha
    refine MixH.take 7 11 _ (.int .i64 (l : Int)) rfl (by kernel_rfl) (by kernel_rfl) (by kernel_rfl) (by kernel_rfl) (yields_int (.tmp 26) rfl ⟨G, i * 10 + 7, none⟩ (.int .i64 (l : Int)) rfl rfl (fun A hA => (hA.1 7 _ rfl).trans (by rw [HV.out.2.2.1]))) hS (fun a' ha => ?_)
    simp only [Act.put, List.setIfInBounds_toArray, List.set_cons_succ, List.set_cons_zero] at ha
    subst ha
    refine MixH.takes [false, false, false, false, false, false, false, false, false, false, false, false, true] 6 (by kernel_rfl) (by kernel_rfl) (by decide) (by kernel_rfl) hS (fun K hK => ?_)
    simp only [Mix.pick]
    repeat (go_big_quiet_step (fail))
    refine wpQuiet_nil (hK _ ?_)
    clear hK K
    refine MixH.take 5 16 _ (.slice (some ⟨g, 0, none⟩) n cap) rfl (by kernel_rfl) (by kernel_rfl) (by kernel_rfl) (by kernel_rfl) (yields_its (.tmp 31) rfl ⟨G, i * 10 + 5, none⟩ (.slice (some ⟨g, 0, none⟩) n cap) rfl rfl (fun A hA => (hA.1 5 _ rfl).trans (by rw [HV.out.1]))) hS (fun a' ha => ?_)
    simp only [Act.put, List.setIfInBounds_toArray, List.set_cons_succ, List.set_cons_zero] at ha
    subst ha
    refine MixH.takes [false, false, false, false, false, false, false, false, false, false, false, false, false, false, false, false, false, true, true] 3 (by kernel_rfl) (by kernel_rfl) (by decide) (by kernel_rfl) hS (fun K hK => ?_)
    simp only [Mix.pick]
    repeat (go_big_quiet_step (fail))
    refine wpQuiet_nil (hK _ ?_)
    clear hK K
    refine MixH.take 2 19 _ (.agg (itA x)) rfl (by kernel_rfl) (by kernel_rfl) (by kernel_rfl) (by kernel_rfl) (yields_itm (.tmp 3) rfl B 0 x rfl rfl (fun A hA => hA.2.all)) hS (fun a' ha => ?_)
    simp only [Act.put, List.setIfInBounds_toArray, List.set_cons_succ, List.set_cons_zero] at ha
    subst ha
    refine MixH.takes [false, false, false, false, false, false, false, false, false, false, false, false, false, false, false, false, false, false, false, false, true] 1 (by kernel_rfl) (by kernel_rfl) (by decide) (by kernel_rfl) hS (fun K hK => ?_)
    simp only [Mix.pick]
    repeat (go_big_quiet_step (fail))
    refine wpQuiet_nil (hK _ ?_)
    clear hK K
    refine MixH.one [false, false, false, false, false, false, false, false, false, false, false, false, false, false, false, false, false, false, false, false, false, true] 0 21 _ rfl rfl (by kernel_rfl) (by kernel_rfl) (fun K hK => ?_)
    simp only [Mix.pick]
    refine wpList_setG itL_len itL_one 119 info_it (.tmp 36) (.tmp 35) rfl rfl 0 g n cap (widened m H).S k (k * 2) x rfl rfl rfl HB.out.2.1 HKN.out rfl ?_
    intro w5 gl5 k5
    have hgG : G ≠ g := fun e => (HB.out.1.pm (List.mem_of_getElem? HT.out.2.1)).2 (by rw [HV.out.1]; exact congrArg some e.symm)
    have hBq : B ≠ g := fun e => HBN.out g (by rw [HV.out.1]; rfl) e.symm
    have HG5 : Hid (w5.cell? ⟨G, i * 10 + 7, none⟩ = some (.int .i64 (l : Int)) ∧ (∀ j, w5.frozen? ⟨G, j, none⟩ = false) ∧ GL 10 cmL 98 w5 0 (.slice (some ⟨G, 0, none⟩) (ms.set i (widened m H)).length (ms.set i (widened m H)).length) (ms.set i (widened m H)) ∧ GL 2 itL 119 w5 0 (.slice (some ⟨g, 0, none⟩) n cap) ((widened m H).S.set k x) ∧ Ch (fun q => q = g) w2 w5 ∧ G ≠ g) := by
      refine ⟨k5.cell ((HB.out.1.cell HT.out.2.1 7 rfl).trans (by rw [HV.out.2.2.1])) hgG, fun j => (k5.frozen (p := ⟨G, j, none⟩) HB.out.1.gk.1 hgG).trans (HB.out.1.fzG j), HB.out.1.gl.ch k5 (fun q hq e => hgG (by simp only [Value.ownBlock, Option.some.injEq] at hq; rw [hq, e])), gl5, (Ch.ofBelow HB.out.2.2).trans k5 (fun _ _ e => e), hgG⟩
    replace hS : w5.rangeAt G (i * 10) (cmL (widened m H)) ∧ ItmAt w5 B x := ⟨fun j v hj => k5.cell (hS.1 j v hj) hgG, hS.2.ch k5 hBq⟩
    clear gl5 k5 hgG hBq
    refine ⟨rfl, hK _ _ hS ?_⟩
    clear hK K
    refine MixH.done (by kernel_rfl) ?_
    clear hS
    have c7 := HG5.out.1
    have z7 := HG5.out.2.1 (i * 10 + 7)
    have HF : Hid (QA (w5.setCell ⟨G, i * 10 + 7, none⟩ (.int .i64 ((l : Int) + 1))) P G ((ms.set i (widened m H)).set i (joined (widened m H) x)) t ∧ Ch (fun q => q = G ∨ (widened m H).v.ownBlock = some q) w2 (w5.setCell ⟨G, i * 10 + 7, none⟩ (.int .i64 ((l : Int) + 1)))) := by
      have kk : Ch (fun q => q = G) w5 (w5.setCell ⟨G, i * 10 + 7, none⟩ (.int .i64 ((l : Int) + 1))) := (Ch.refl (fun q => q = G) w5).set ⟨G, i * 10 + 7, none⟩ _ rfl
      have kw : Ch (fun q => q = G ∨ (widened m H).v.ownBlock = some q) w2 (w5.setCell ⟨G, i * 10 + 7, none⟩ (.int .i64 ((l : Int) + 1))) := (HG5.out.2.2.2.2.1.mono (fun q _ e => .inr (by rw [HV.out.1]; exact congrArg some e.symm))).trans kk (fun _ _ e => .inl e)
      have g1 := gl_set HG5.out.2.2.1 i 7 (m' := joined (widened m H) x) (.int .i64 ((l : Int) + 1)) HT.out.2.1 (by decide) (by rw [← HV.out.2.2.1]; exact joined_cells (widened m H) x)
      have g2 := HG5.out.2.2.2.1.ch kk (fun q hq e => HG5.out.2.2.2.2.2 (by simp only [Value.ownBlock, Option.some.injEq] at hq; rw [hq, e]))
      refine ⟨HT.out.1.put HT.out.2.1 kw g1 (joined_ok HLO.out HLN.out ?_) (fun q hq => .inl hq), kw⟩
      rw [← HV.out.2.2.2.2, HV.out.1]
      exact g2
    go_wp2
    go_end0
    refine ⟨joined (widened m H) x, rfl, ?_, rfl, rfl, HW2.out.1.mono (fun _ _ e => .inl e) |>.trans HF.out.2 (fun q hq e => e.elim .inl (fun e => ?_)), fun q hq => .inr ?_⟩
    · have := HF.out.1; rwa [List.set_set] at this
    · have e1 : some H = some q := e
      simp only [Option.some.injEq] at e1
      have := HW2.out.2
      omega
    · have e1 : some H = some q := hq
      simp only [Option.some.injEq] at e1
      rw [← e1]
      exact HW2.out.2

  · have q1 : ((ll : Int) == (nn : Int)) = false := beq_eq_false_iff_ne.2 (by omega)
    have HT : Hid (QA wA P G ms t ∧ ms[i]? = some m ∧ ItmAt wA B x ∧ m.c.L.length < m.S.length) := ⟨HA.out.1, HQ0.out.2.1, HA.out.2.2.1, by rw [HLL.out.2.2, HLL.out.2.1]; omega⟩
    have HBN : Hid (∀ q, m.v.ownBlock = some q → q ≠ B) := fun q hq e => by
      have h1 := HQ0.out.1.lt q (.inr (.inr ⟨m, List.mem_of_getElem? HQ0.out.2.1, hq⟩))
      have h3 := HOX.out
      omega
    have HLN : Hid (m.c.L.length < m.S.length) := HT.out.2.2.2
    have HBA : Hid (Below w.heap.size w wA) := HA.out.2.1
    clear hle he HA
    have hlo := HT.out.1.ln m (List.mem_of_getElem? HT.out.2.1)
    have HLO : Hid (LnOk wA m) := hlo
    obtain ⟨n, hn⟩ : ∃ n, n = m.S.length := ⟨_, rfl⟩
    obtain ⟨f, hfe⟩ : ∃ f, f = m.f := ⟨_, rfl⟩
    obtain ⟨l, hle⟩ : ∃ l, l = m.c.L.length := ⟨_, rfl⟩
    have hln : l < n := by have := HT.out.2.2.2; omega
    have hf : f < n := by rcases hlo.fl with e | e <;> omega
    have hnb := hlo.nb
    rw [← hn] at hnb
    obtain ⟨y, hy⟩ : ∃ y, m.S[0]? = some y := ⟨_, List.getElem?_eq_getElem (by omega)⟩
    obtain ⟨g, cap, hv, x1, x2, x3⟩ := hlo.own.at itL_len 0 y hy
    clear x1 x2 x3
    rw [← hn] at hv
    obtain ⟨k, hk⟩ : ∃ k, k = (f + l) % n := ⟨_, rfl⟩
    have hkn : k < n := by rw [hk]; exact Nat.mod_lt _ (by omega)
    have hkT : Int.tmod ((f : Int) + (l : Int)) (n : Int) = (k : Int) := by rw [Int.tmod_eq_emod_of_nonneg (by omega), hk]; simp
    have HV : Hid (m.v = .slice (some ⟨g, 0, none⟩) n cap ∧ m.f = f ∧ m.c.L.length = l ∧ m.S.length = n ∧ k = (m.f + m.c.L.length) % m.S.length) := ⟨hv, hfe.symm, hle.symm, hn.symm, by rw [← hn, ← hfe, ← hle]; exact hk⟩
    have wA1 : IntKind.i64.wrap ((f : Int) + (l : Int)) = (f : Int) + (l : Int) := i64_s _ (by omega) (by omega)
    have wA2 : IntKind.i64.wrap ((l : Int) + 1) = (l : Int) + 1 := i64_s _ (by omega) (by omega)
    have n0 : ((n : Int) == 0) = false := beq_eq_false_iff_ne.2 (by omega)
    have k0 : (0 : Int) ≤ (k : Int) := by omega
    have k1 : (k : Int) < (n : Int) := by omega
    have k2 : ((k : Int)).toNat = k := by omega
    have HOWN : Hid (GL 2 itL 119 wA 0 (.slice (some ⟨g, 0, none⟩) n cap) m.S) := by have h1 := hlo.own; rw [hv] at h1; exact h1
    have HKN : Hid (k < n) := hkn
    clear hlo hn hfe hle hy hv hk hf hln hkn
    go_upto_region 3 with fail
    refine MixH.start (fun A => A.rangeAt G (i * 10) (cmL m) ∧ ItmAt A B x) (by kernel_rfl) ?_
    obtain ⟨wB, hwA⟩ : ∃ W_, W_ = wA.drew := ⟨_, rfl⟩
    have bdr : Below wA.heap.size wA wB := by rw [hwA]; exact (Below.refl _ _).drew
    have HB : Hid (QA wB P G ms t ∧ GL 2 itL 119 wB 0 (.slice (some ⟨g, 0, none⟩) n cap) m.S ∧ Below wA.heap.size wA wB) := ⟨HT.out.1.below bdr, HOWN.out.below bdr, bdr⟩
    have hS : wB.rangeAt G (i * 10) (cmL m) ∧ ItmAt wB B x := ⟨HB.out.1.cells HT.out.2.1, HT.out.2.2.1.below bdr⟩
    rw [← hwA]
    clear hwA bdr
    refine MixH.takes [true, true, true, false, true, true, true, false, true, true, true, false, false, true, true, true] 10 (by kernel_rfl) (by kernel_rfl) (by decide) (by kernel_rfl) hS (fun K hK => ?_)
    simp only [Mix.pick]
    repeat (go_big_quiet_step (fail))
    refine wpQuiet_nil (hK _ ?_)
    clear hK K
    refine MixH.take 9 3 _ (.slice (some ⟨g, 0, none⟩) n cap) rfl (by kernel_rfl) (by kernel_rfl) (by kernel_rfl) (by kernel_rfl) (yields_its (.tmp 18) rfl ⟨G, i * 10 + 5, none⟩ (.slice (some ⟨g, 0, none⟩) n cap) rfl rfl (fun A hA => (hA.1 5 _ rfl).trans (by rw [HV.out.1]))) hS (fun a' ha => ?_)
    simp only [Act.put, List.setIfInBounds_toArray, List.set_cons_succ, List.set_cons_zero] at ha
    subst ha
    refine MixH.take 8 7 _ (.int .i64 (f : Int)) rfl (by kernel_rfl) (by kernel_rfl) (by kernel_rfl) (by kernel_rfl) (yields_int (.tmp 22) rfl ⟨G, i * 10 + 6, none⟩ (.int .i64 (f : Int)) rfl rfl (fun A hA => (hA.1 6 _ rfl).trans (by rw [HV.out.2.1]))) hS (fun a' ha => ?_)
    simp only [Act.put, List.setIfInBounds_toArray, List.set_cons_succ, List.set_cons_zero] at ha
    subst ha
    refine MixH.take 7 11 _ (.int .i64 (l : Int)) rfl (by kernel_rfl) (by kernel_rfl) (by kernel_rfl) (by kernel_rfl) (yields_int (.tmp 26) rfl ⟨G, i * 10 + 7, none⟩ (.int .i64 (l : Int)) rfl rfl (fun A hA => (hA.1 7 _ rfl).trans (by rw [HV.out.2.2.1]))) hS (fun a' ha => ?_)
    simp only [Act.put, List.setIfInBounds_toArray, List.set_cons_succ, List.set_cons_zero] at ha
    subst ha
    refine MixH.takes [false, false, false, false, false, false, false, false, false, false, false, false, true] 6 (by kernel_rfl) (by kernel_rfl) (by decide) (by kernel_rfl) hS (fun K hK => ?_)
    simp only [Mix.pick]
    repeat (go_big_quiet_step (fail))
    refine wpQuiet_nil (hK _ ?_)
    clear hK K
    refine MixH.take 5 16 _ (.slice (some ⟨g, 0, none⟩) n cap) rfl (by kernel_rfl) (by kernel_rfl) (by kernel_rfl) (by kernel_rfl) (yields_its (.tmp 31) rfl ⟨G, i * 10 + 5, none⟩ (.slice (some ⟨g, 0, none⟩) n cap) rfl rfl (fun A hA => (hA.1 5 _ rfl).trans (by rw [HV.out.1]))) hS (fun a' ha => ?_)
    simp only [Act.put, List.setIfInBounds_toArray, List.set_cons_succ, List.set_cons_zero] at ha
    subst ha
    refine MixH.takes [false, false, false, false, false, false, false, false, false, false, false, false, false, false, false, false, false, true, true] 3 (by kernel_rfl) (by kernel_rfl) (by decide) (by kernel_rfl) hS (fun K hK => ?_)
    simp only [Mix.pick]
    repeat (go_big_quiet_step (fail))
    refine wpQuiet_nil (hK _ ?_)
    clear hK K
    refine MixH.take 2 19 _ (.agg (itA x)) rfl (by kernel_rfl) (by kernel_rfl) (by kernel_rfl) (by kernel_rfl) (yields_itm (.tmp 3) rfl B 0 x rfl rfl (fun A hA => hA.2.all)) hS (fun a' ha => ?_)
    simp only [Act.put, List.setIfInBounds_toArray, List.set_cons_succ, List.set_cons_zero] at ha
    subst ha
    refine MixH.takes [false, false, false, false, false, false, false, false, false, false, false, false, false, false, false, false, false, false, false, false, true] 1 (by kernel_rfl) (by kernel_rfl) (by decide) (by kernel_rfl) hS (fun K hK => ?_)
    simp only [Mix.pick]
    repeat (go_big_quiet_step (fail))
    refine wpQuiet_nil (hK _ ?_)
    clear hK K
    refine MixH.one [false, false, false, false, false, false, false, false, false, false, false, false, false, false, false, false, false, false, false, false, false, true] 0 21 _ rfl rfl (by kernel_rfl) (by kernel_rfl) (fun K hK => ?_)
    simp only [Mix.pick]
    refine wpList_setG itL_len itL_one 119 info_it (.tmp 36) (.tmp 35) rfl rfl 0 g n cap m.S k (k * 2) x rfl rfl rfl HB.out.2.1 HKN.out rfl ?_
    intro w5 gl5 k5
    have hgG : G ≠ g := fun e => (HB.out.1.pm (List.mem_of_getElem? HT.out.2.1)).2 (by rw [HV.out.1]; exact congrArg some e.symm)
    have hBq : B ≠ g := fun e => HBN.out g (by rw [HV.out.1]; rfl) e.symm
    have HG5 : Hid (w5.cell? ⟨G, i * 10 + 7, none⟩ = some (.int .i64 (l : Int)) ∧ (∀ j, w5.frozen? ⟨G, j, none⟩ = false) ∧ GL 10 cmL 98 w5 0 (.slice (some ⟨G, 0, none⟩) ms.length ms.length) ms ∧ GL 2 itL 119 w5 0 (.slice (some ⟨g, 0, none⟩) n cap) (m.S.set k x) ∧ Ch (fun q => q = g) wA w5 ∧ G ≠ g) := by
      refine ⟨k5.cell ((HB.out.1.cell HT.out.2.1 7 rfl).trans (by rw [HV.out.2.2.1])) hgG, fun j => (k5.frozen (p := ⟨G, j, none⟩) HB.out.1.gk.1 hgG).trans (HB.out.1.fzG j), HB.out.1.gl.ch k5 (fun q hq e => hgG (by simp only [Value.ownBlock, Option.some.injEq] at hq; rw [hq, e])), gl5, (Ch.ofBelow HB.out.2.2).trans k5 (fun _ _ e => e), hgG⟩
    replace hS : w5.rangeAt G (i * 10) (cmL m) ∧ ItmAt w5 B x := ⟨fun j v hj => k5.cell (hS.1 j v hj) hgG, hS.2.ch k5 hBq⟩
    clear gl5 k5 hgG hBq
    refine ⟨rfl, hK _ _ hS ?_⟩
    clear hK K
    refine MixH.done (by kernel_rfl) ?_
    clear hS
    have c7 := HG5.out.1
    have z7 := HG5.out.2.1 (i * 10 + 7)
    have HF : Hid (QA (w5.setCell ⟨G, i * 10 + 7, none⟩ (.int .i64 ((l : Int) + 1))) P G (ms.set i (joined m x)) t ∧ Ch (fun q => q = G ∨ m.v.ownBlock = some q) wA (w5.setCell ⟨G, i * 10 + 7, none⟩ (.int .i64 ((l : Int) + 1)))) := by
      have kk : Ch (fun q => q = G) w5 (w5.setCell ⟨G, i * 10 + 7, none⟩ (.int .i64 ((l : Int) + 1))) := (Ch.refl (fun q => q = G) w5).set ⟨G, i * 10 + 7, none⟩ _ rfl
      have kw : Ch (fun q => q = G ∨ m.v.ownBlock = some q) wA (w5.setCell ⟨G, i * 10 + 7, none⟩ (.int .i64 ((l : Int) + 1))) := (HG5.out.2.2.2.2.1.mono (fun q _ e => .inr (by rw [HV.out.1]; exact congrArg some e.symm))).trans kk (fun _ _ e => .inl e)
      have g1 := gl_set HG5.out.2.2.1 i 7 (m' := joined m x) (.int .i64 ((l : Int) + 1)) HT.out.2.1 (by decide) (by rw [← HV.out.2.2.1]; exact joined_cells m x)
      have g2 := HG5.out.2.2.2.1.ch kk (fun q hq e => HG5.out.2.2.2.2.2 (by simp only [Value.ownBlock, Option.some.injEq] at hq; rw [hq, e]))
      refine ⟨HT.out.1.put HT.out.2.1 kw g1 (joined_ok HLO.out HLN.out ?_) (fun q hq => .inl hq), kw⟩
      rw [← HV.out.2.2.2.2, HV.out.1]
      exact g2
    go_wp2
    go_end0
    exact ⟨joined m x, rfl, HF.out.1, rfl, rfl, (Ch.ofBelow HBA.out).trans HF.out.2 (fun _ _ e => e), fun q hq => .inl hq⟩
set_option maxHeartbeats 1600000 in
set_option maxRecDepth 100000 in
theorem joinC_any (size number : Int) (hl : m.c.L.length ≤ 4095) (hb : -1000000000000 ≤ m.b + size ∧ m.b + size ≤ 1000000000000) : Calls Try.prog 45 #[.pointer (some ⟨G, i * 10, none⟩), .int .i64 size, .int .i64 number] w fun e w' => ∃ m', e = .returned (.tuple #[]) ∧ QA w' P G (ms.set i m') t ∧ m'.c = joinC m.c size number ∧ m'.b = m.b + size ∧ Ch (fun q => q = G ∨ m.v.ownBlock = some q) w w' ∧ (∀ q, m'.v.ownBlock = some q → m.v.ownBlock = some q ∨ w.heap.size ≤ q) := by
  have HI : Hid (ms[i]? = some m) := hi
  have QJ : Hid _ := joinL_any w P G ms t h i m hi (number, size) hl
  have wb : IntKind.i64.wrap (m.b + size) = m.b + size := i64_s _ (by omega) (by omega)
  clear h hi hl hb
  go_enter Try.func45, Try.ntmps45
  go_wp2_with (first | (refine wpList_bit (.tmp 9) (.tmp 10) rfl number size rfl rfl rfl ?_))
  refine Calls.mono QJ.out ?_
  rintro e1 w1 ⟨m1, rfl, hq1, hc1, hb1, k1, ho1⟩
  have hil := (List.getElem?_eq_some_iff.1 HI.out).1
  have hi1 := set_same (ms := ms) (m := m1) hil
  have c8 := hq1.cell hi1 8 rfl
  have z8 := hq1.fzG (i * 10 + 8)
  rw [hb1] at c8
  have HF : Hid (QA (w1.setCell ⟨G, i * 10 + 8, none⟩ (.int .i64 (m.b + size))) P G (ms.set i ⟨m1.c, m1.v, m1.f, m1.S, m.b + size⟩) t ∧ Ch (fun q => q = G ∨ m.v.ownBlock = some q) w (w1.setCell ⟨G, i * 10 + 8, none⟩ (.int .i64 (m.b + size)))) := by
    have kk : Ch (fun q => q = G) w1 (w1.setCell ⟨G, i * 10 + 8, none⟩ (.int .i64 (m.b + size))) := (Ch.refl (fun q => q = G) w1).set ⟨G, i * 10 + 8, none⟩ _ rfl
    have g1 := gl_set hq1.gl i 8 (m' := ⟨m1.c, m1.v, m1.f, m1.S, m.b + size⟩) (.int .i64 (m.b + size)) hi1 (by decide) rfl
    have hl1 := hq1.ln m1 (List.mem_of_getElem? hi1)
    have hp := (hq1.pm (List.mem_of_getElem? hi1)).2
    have h2 := hl1.ch kk (fun q hq e => hp (by rw [hq, e]))
    have h3 := hq1.put (m' := ⟨m1.c, m1.v, m1.f, m1.S, m.b + size⟩) hi1 (kk.mono (fun _ _ e => .inl e)) g1 ⟨h2.own, h2.fl, h2.ql, h2.at', h2.nb, h2.nl⟩ (fun q hq => .inl hq)
    rw [List.set_set] at h3
    exact ⟨h3, k1.trans kk (fun _ _ e => .inl e)⟩
  have HC : Hid (m1.c = ⟨m.c.li, m.c.L ++ [(number, size)], m.c.tk⟩ ∧ ∀ q, m1.v.ownBlock = some q → m.v.ownBlock = some q ∨ w.heap.size ≤ q) := ⟨hc1, ho1⟩
  clear hq1 hc1 hb1 k1 ho1 hil hi1 QJ
  go_wp2
  go_end0
  exact ⟨⟨m1.c, m1.v, m1.f, m1.S, m.b + size⟩, rfl, HF.out.1, HC.out.1, rfl, HF.out.2, HC.out.2⟩
end
end Go.Proofs.Ytclkcpdghpaboaa
