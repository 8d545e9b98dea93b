/-
  Layer 18: widen.
-/
import Derived.Test.YtclkcpdghpaboaaQF1
namespace Go.Proofs.Ytclkcpdghpaboaa
open Go.RowKit

theorem zero_it : ∃ i, Try.prog.info? 119 = some i ∧ i.zero.map Value.cells = some (itL iz).toArray ∧ i.size = 2 ∧ i.bytes ≤ 1000 := zero_of (by kernel_rfl)
theorem i64_s (x : Int) (h0 : -1000000000000000000 ≤ x) (h1 : x ≤ 1000000000000000000) : IntKind.i64.wrap x = x := by rw [IntKind.wrap_i64]; omega
theorem mod_two (f k n : Nat) (hf : f < n) (hk : k ≤ n) : (f + k) % n = if f + k < n then f + k else f + k - n := by
  split
  · exact Nat.mod_eq_of_lt (by assumption)
  · rw [Nat.mod_eq_sub_mod (by omega), Nat.mod_eq_of_lt (by omega)]
/-- a full line, turned so that its head stands first -/
theorem turned {S L : List (Int × Int)} {f : Nat} (hf : f < S.length) (hl : L.length = S.length) (ha : ∀ k, k < L.length → S[(f + k) % S.length]? = L[k]?) : S.drop f ++ S.take f = L := by
  apply List.ext_getElem?
  intro k
  by_cases hk : k < L.length
  · rw [← ha k hk, mod_two f k S.length hf (by omega)]
    by_cases h1 : f + k < S.length
    · rw [if_pos h1, List.getElem?_append_left (by rw [List.length_drop]; omega), List.getElem?_drop]
    · rw [if_neg h1, List.getElem?_append_right (by rw [List.length_drop]; omega), List.length_drop, List.getElem?_take_of_lt (by omega)]
      congr 1
      omega
  · rw [List.getElem?_eq_none (by simp; omega), List.getElem?_eq_none (by omega)]
def wd (n : Nat) : Nat := if n = 0 then 1 else 2 * n
theorem laid2 (S L : List (Int × Int)) (f : Nat) (hf : f ≤ S.length) (N : Nat) (hN : S.length ≤ N) (hL : S.drop f ++ S.take f = L) (X : List (Int × Int)) (hX : X = (List.replicate N iz).take 0 ++ (S.drop f ++ (List.replicate N iz).drop (0 + (S.drop f).length))) :
    X.take (S.length - f) ++ (S.take f ++ X.drop (S.length - f + (S.take f).length)) = L ++ List.replicate (N - S.length) iz := by
  have l1 : (S.drop f).length = S.length - f := List.length_drop
  have l2 : (S.take f).length = f := by rw [List.length_take]; omega
  rw [List.take_zero, List.nil_append, Nat.zero_add, List.drop_replicate] at hX
  have t1 : X.take (S.length - f) = S.drop f := by rw [hX, ← l1, List.take_left]
  have t2 : X.drop (S.length - f + f) = List.replicate (N - S.length) iz := by rw [hX, ← l1, List.drop_length_add_append, List.drop_replicate, l1]; congr 1; omega
  rw [l2, t1, t2, ← List.append_assoc, hL]
/-- what widen leaves -/
def widened (m : CM) (H : Nat) : CM := ⟨m.c, .slice (some ⟨H, 0, none⟩) (wd m.S.length) (wd m.S.length), 0, m.c.L ++ List.replicate (wd m.S.length - m.S.length) iz, m.b⟩
theorem wd_len (m : CM) (h : m.c.L.length = m.S.length) (H : Nat) : (widened m H).S.length = wd m.S.length := by
  simp only [widened, List.length_append, List.length_replicate, h]
  unfold wd
  split <;> omega
theorem widened_ok {m : CM} {H : Nat} (hl : m.c.L.length = m.S.length) (hb : m.S.length ≤ 4095) {w' : World} (hg : GL 2 itL 119 w' 0 (.slice (some ⟨H, 0, none⟩) (wd m.S.length) (wd m.S.length)) (m.c.L ++ List.replicate (wd m.S.length - m.S.length) iz)) : LnOk w' (widened m H) := by
  have hw := wd_len m hl H
  have hw0 : 0 < wd m.S.length := by unfold wd; split <;> omega
  have hwb : wd m.S.length ≤ 8190 := by unfold wd; split <;> omega
  have hwm : m.S.length ≤ wd m.S.length := by unfold wd; split <;> omega
  refine ⟨hg, .inl (by rw [hw]; exact hw0), by rw [hw]; show m.c.L.length ≤ _; omega, fun k hk => ?_, by rw [hw]; exact hwb, fun e => by rw [hw] at e; omega⟩
  have hk' : k < m.c.L.length := hk
  rw [hw]
  show (m.c.L ++ _)[(0 + k) % _]? = m.c.L[k]?
  rw [Nat.zero_add, Nat.mod_eq_of_lt (by omega), List.getElem?_append_left hk']
section
variable (w : World) (P G : Nat) (ms : List CM) (t : TN) (h : QA w P G ms t) (i : Nat) (m : CM) (hi : ms[i]? = some m)
include h hi
set_option maxHeartbeats 1600000 in
set_option maxRecDepth 100000 in
theorem widen_any (hl : m.c.L.length = m.S.length) (hb : m.S.length ≤ 4095) : Calls Try.prog 71 #[.pointer (some ⟨G, i * 10 + 5, none⟩)] w fun e w' => ∃ H, e = .returned (.tuple #[]) ∧ QA w' P G (ms.set i (widened m H)) t ∧ Ch (fun q => q = G) w w' ∧ w.heap.size ≤ H ∧ H < w'.heap.size := by
  have hlo := h.ln m (List.mem_of_getElem? hi)
  have HQ : Hid (QA w P G ms t) := h
  have HI : Hid (ms[i]? = some m) := hi
  have HLO : Hid (LnOk w m) := hlo
  have HB : Hid (m.c.L.length = m.S.length ∧ m.S.length ≤ 4095) := ⟨hl, hb⟩
  by_cases h0 : m.S.length = 0
  · have hv : m.v = .slice none 0 0 := hlo.nl h0
    have hf : m.f = 0 := by rcases hlo.fl with e | e <;> omega
    have HV : Hid (m.v = .slice none 0 0 ∧ m.f = 0) := ⟨hv, hf⟩
    have c5 := (h.cell hi 5 rfl).trans (by rw [hv])
    have HZ0 : Hid (m.S.length = 0) := h0
    clear h hi hlo hl hb h0 hv hf
    go_enter Try.func71, Try.ntmps71
    go_upto_region 1 with (first | (at_make; refine wpList_makeG itL_len (by decide) iz rfl (.tmp 10) (.tmp 10) 94 119 rfl Try.underlying94 zero_it w.heap.size _ _ 1 rfl rfl rfl rfl (by omega) (Nat.le_refl _) ?_; intro w1 gl1 b1))
    obtain ⟨H, hH⟩ : ∃ H, w.heap.size = H := ⟨_, rfl⟩
    rw [hH] at gl1 ⊢
    have HH : Hid (w.heap.size = H) := hH
    have HG1 : Hid (GL 2 itL 119 w1 0 (.slice (some ⟨H, 0, none⟩) 1 1) (List.replicate 1 iz) ∧ QA w1 P G ms t ∧ Ch (fun q => q = H) w w1 ∧ H < w1.heap.size ∧ LnOk w1 m) := ⟨gl1.mono (Nat.zero_le _), HQ.out.below b1, Ch.ofBelow b1, (gl1.kind H rfl).2.1, HLO.out.ch (Ch.ofBelow (S := fun _ => False) b1) (fun _ _ => id)⟩
    have HHB : Hid (¬ QB P G ms H) := fun hq => by have h1 := HQ.out.lt H hq; have h2 := HH.out; omega
    clear gl1 b1 hH c5
    refine MixH.start (fun A => QA A P G ms t) (by kernel_rfl) ?_
    obtain ⟨wA, hwA⟩ : ∃ wA, wA = w1.drew := ⟨_, rfl⟩
    have bdr : Below w1.heap.size w1 wA := by rw [hwA]; exact (Below.refl _ _).drew
    have hS : QA wA P G ms t := HG1.out.2.1.below bdr
    have HGA : Hid (GL 2 itL 119 wA 0 (.slice (some ⟨H, 0, none⟩) 1 1) (List.replicate 1 iz) ∧ LnOk wA m ∧ Ch (fun q => q = H) w wA ∧ H < wA.heap.size) := ⟨HG1.out.1.below bdr, HG1.out.2.2.2.2.ch (Ch.ofBelow (S := fun _ => False) bdr) (fun _ _ => id), HG1.out.2.2.1.trans (Ch.ofBelow (S := fun _ => False) bdr) (fun _ _ h => h.elim), Nat.lt_of_lt_of_le HG1.out.2.2.2.1 bdr.size⟩
    rw [← hwA]
    clear hwA bdr
    refine MixH.takes [true, true, true, true, false, true, true, true] 5 (by kernel_rfl) (by kernel_rfl) (by decide) (by kernel_rfl) hS (fun K hK => ?_)
    simp only [Mix.pick]
    repeat (go_big_quiet_step (fail))
    refine wpQuiet_nil (hK _ ?_)
    clear hK K
    refine MixH.take 4 4 _ (.slice none 0 0) rfl (by kernel_rfl) (by kernel_rfl) (by kernel_rfl) (by kernel_rfl) (yields_its (.tmp 15) rfl ⟨G, i * 10 + 5, none⟩ (.slice none 0 0) rfl rfl (fun A hA => (hA.cell HI.out 5 rfl).trans (by rw [HV.out.1]))) hS (fun a' ha => ?_)
    simp only [Act.put, List.setIfInBounds_toArray, List.set_cons_succ, List.set_cons_zero] at ha
    subst ha
    refine MixH.take 3 8 _ (.int .i64 (0 : Nat)) rfl (by kernel_rfl) (by kernel_rfl) (by kernel_rfl) (by kernel_rfl) (yields_int (.tmp 19) rfl ⟨G, i * 10 + 6, none⟩ (.int .i64 (0 : Nat)) rfl rfl (fun A hA => (hA.cell HI.out 6 rfl).trans (by rw [HV.out.2]))) hS (fun a' ha => ?_)
    simp only [Act.put, List.setIfInBounds_toArray, List.set_cons_succ, List.set_cons_zero] at ha
    subst ha
    refine MixH.takes [false, false, false, false, false, false, false, false, false, true] 2 (by kernel_rfl) (by kernel_rfl) (by decide) (by kernel_rfl) hS (fun K hK => ?_)
    simp only [Mix.pick]
    repeat (go_big_quiet_step (fail))
    refine wpQuiet_nil (hK _ ?_)
    clear hK K
    refine MixH.one [false, false, false, false, false, false, false, false, false, false, true] 1 10 _ rfl rfl (by kernel_rfl) (by kernel_rfl) (fun K hK => ?_)
    simp only [Mix.pick]
    refine wpList_copyG itL_len itL_one (by decide) rfl (.tmp 12) (.tmp 21) 94 119 rfl Try.underlying94 info_it 0 H 1 1 (List.replicate 1 iz) (some ⟨H, 0, none⟩) 0 1 1 rfl none 0 0 rfl (fun _ => True) ([] : List (Int × Int)) rfl (fun h => absurd h (by decide)) (.inl rfl) HGA.out.1 (by decide) ?_
    intro w2 gl2 k2
    replace hS : QA w2 P G ms t := hS.ch k2 (fun q hq e => HHB.out (e ▸ hq))
    have HG2 : Hid (GL 2 itL 119 w2 0 (.slice (some ⟨H, 0, none⟩) 1 1) ((List.replicate 1 iz).take 0 ++ (([] : List (Int × Int)) ++ (List.replicate 1 iz).drop (0 + ([] : List (Int × Int)).length))) ∧ LnOk w2 m ∧ Ch (fun q => q = H) w w2 ∧ H < w2.heap.size) := ⟨gl2, HGA.out.2.1.ch k2 (fun q hq e => HHB.out (e ▸ .inr (.inr ⟨m, List.mem_of_getElem? HI.out, hq⟩))), HGA.out.2.2.1.trans k2 (fun _ _ h => h), Nat.lt_of_lt_of_le HGA.out.2.2.2 k2.size⟩
    clear gl2 k2
    rw [show goInt ([] : List (Int × Int)).length = .int .i64 0 from rfl]
    go_wp2_with fail
    refine ⟨rfl, hK _ _ hS ?_⟩
    clear hK K
    refine MixH.takes [false, false, false, false, false, false, false, false, false, false, false, true] 0 (by kernel_rfl) (by kernel_rfl) (by decide) (by kernel_rfl) hS (fun K hK => ?_)
    simp only [Mix.pick]
    repeat (go_big_quiet_step (fail))
    refine wpQuiet_nil (hK _ ?_)
    clear hK K
    refine MixH.done (by kernel_rfl) ?_

    go_upto_region 2 with fail
    refine MixH.start (fun A => QA A P G ms t) (by kernel_rfl) ?_
    obtain ⟨wB, hwA⟩ : ∃ wA, wA = w2.drew := ⟨_, rfl⟩
    have bdr : Below w2.heap.size w2 wB := by rw [hwA]; exact (Below.refl _ _).drew
    replace hS : QA wB P G ms t := hS.below bdr
    have HGB : Hid (GL 2 itL 119 wB 0 (.slice (some ⟨H, 0, none⟩) 1 1) ((List.replicate 1 iz).take 0 ++ (([] : List (Int × Int)) ++ (List.replicate 1 iz).drop (0 + ([] : List (Int × Int)).length))) ∧ LnOk wB m ∧ Ch (fun q => q = H) w wB ∧ H < wB.heap.size) := ⟨HG2.out.1.below bdr, HG2.out.2.1.ch (Ch.ofBelow (S := fun _ => False) bdr) (fun _ _ => id), HG2.out.2.2.1.trans (Ch.ofBelow (S := fun _ => False) bdr) (fun _ _ h => h.elim), Nat.lt_of_lt_of_le HG2.out.2.2.2 bdr.size⟩
    rw [← hwA]
    clear hwA bdr
    refine MixH.takes [true, true, true, true, true, true, false, true, true, true] 4 (by kernel_rfl) (by kernel_rfl) (by decide) (by kernel_rfl) hS (fun K hK => ?_)
    simp only [Mix.pick]
    repeat (go_big_quiet_step (fail))
    refine wpQuiet_nil (hK _ ?_)
    clear hK K
    refine MixH.take 3 6 _ (.slice none 0 0) rfl (by kernel_rfl) (by kernel_rfl) (by kernel_rfl) (by kernel_rfl) (yields_its (.tmp 28) rfl ⟨G, i * 10 + 5, none⟩ (.slice none 0 0) rfl rfl (fun A hA => (hA.cell HI.out 5 rfl).trans (by rw [HV.out.1]))) hS (fun a' ha => ?_)
    simp only [Act.put, List.setIfInBounds_toArray, List.set_cons_succ, List.set_cons_zero] at ha
    subst ha
    refine MixH.take 2 10 _ (.int .i64 (0 : Nat)) rfl (by kernel_rfl) (by kernel_rfl) (by kernel_rfl) (by kernel_rfl) (yields_int (.tmp 32) rfl ⟨G, i * 10 + 6, none⟩ (.int .i64 (0 : Nat)) rfl rfl (fun A hA => (hA.cell HI.out 6 rfl).trans (by rw [HV.out.2]))) hS (fun a' ha => ?_)
    simp only [Act.put, List.setIfInBounds_toArray, List.set_cons_succ, List.set_cons_zero] at ha
    subst ha
    refine MixH.takes [false, false, false, false, false, false, false, false, false, false, false, true] 1 (by kernel_rfl) (by kernel_rfl) (by decide) (by kernel_rfl) hS (fun K hK => ?_)
    simp only [Mix.pick]
    repeat (go_big_quiet_step (fail))
    refine wpQuiet_nil (hK _ ?_)
    clear hK K
    refine MixH.one [false, false, false, false, false, false, false, false, false, false, false, false, true] 0 12 _ rfl rfl (by kernel_rfl) (by kernel_rfl) (fun K hK => ?_)
    simp only [Mix.pick]
    refine wpList_copyG itL_len itL_one (by decide) rfl (.tmp 25) (.tmp 34) 94 119 rfl Try.underlying94 info_it 0 H 1 1 ((List.replicate 1 iz).take 0 ++ (([] : List (Int × Int)) ++ (List.replicate 1 iz).drop (0 + ([] : List (Int × Int)).length))) (some ⟨H, 0 * 2, none⟩) 0 (1 - 0) (1 - 0) rfl none 0 0 rfl (fun _ => True) ([] : List (Int × Int)) rfl (fun h => absurd h (by decide)) (.inl rfl) HGB.out.1 (by decide) ?_
    intro w3 gl3 k3
    replace hS : QA w3 P G ms t := hS.ch k3 (fun q hq e => HHB.out (e ▸ hq))
    have HG3 : Hid (GL 2 itL 119 w3 0 (.slice (some ⟨H, 0, none⟩) 1 1) (((List.replicate 1 iz).take 0 ++ (([] : List (Int × Int)) ++ (List.replicate 1 iz).drop (0 + ([] : List (Int × Int)).length))).take 0 ++ (([] : List (Int × Int)) ++ ((List.replicate 1 iz).take 0 ++ (([] : List (Int × Int)) ++ (List.replicate 1 iz).drop (0 + ([] : List (Int × Int)).length))).drop (0 + ([] : List (Int × Int)).length))) ∧ Ch (fun q => q = H) w w3 ∧ H < w3.heap.size ∧ QA w3 P G ms t) := ⟨gl3, HGB.out.2.2.1.trans k3 (fun _ _ h => h), Nat.lt_of_lt_of_le HGB.out.2.2.2 k3.size, hS⟩
    clear gl3 k3
    go_wp2_with fail
    refine ⟨rfl, hK _ _ hS ?_⟩
    clear hK K
    refine MixH.done (by kernel_rfl) ?_
    clear hS
    have HLL : Hid ((((List.replicate 1 iz).take 0 ++ (([] : List (Int × Int)) ++ (List.replicate 1 iz).drop (0 + ([] : List (Int × Int)).length))).take 0 ++ (([] : List (Int × Int)) ++ ((List.replicate 1 iz).take 0 ++ (([] : List (Int × Int)) ++ (List.replicate 1 iz).drop (0 + ([] : List (Int × Int)).length))).drop (0 + ([] : List (Int × Int)).length))) = m.c.L ++ List.replicate (wd m.S.length - m.S.length) iz ∧ 1 = wd m.S.length) := by
      have e0 : m.c.L = [] := List.eq_nil_of_length_eq_zero (by rw [HB.out.1]; exact HZ0.out)
      show _ ∧ _
      rw [HZ0.out, e0]
      exact ⟨rfl, rfl⟩

    have d5 := HG3.out.2.2.2.cell HI.out 5 rfl
    have z5 := HG3.out.2.2.2.fzG (i * 10 + 5)
    have e6 : ∀ v, (w3.setCell ⟨G, i * 10 + 5, none⟩ v).cell? ⟨G, i * 10 + 6, none⟩ = some (.int .i64 (m.f : Int)) := fun v => by rw [World.cell?_setCell_other _ _ _ _ (by simp)]; exact HG3.out.2.2.2.cell HI.out 6 rfl
    have z6 : ∀ v, (w3.setCell ⟨G, i * 10 + 5, none⟩ v).frozen? ⟨G, i * 10 + 6, none⟩ = false := fun v => by rw [World.frozen?_setCell]; exact HG3.out.2.2.2.fzG _
    have HFIN : Hid (QA ((w3.setCell ⟨G, i * 10 + 5, none⟩ (.slice (some ⟨H, 0, none⟩) 1 1)).setCell ⟨G, i * 10 + 6, none⟩ (.int .i64 0)) P G (ms.set i (widened m H)) t ∧ Ch (fun q => q = G) w ((w3.setCell ⟨G, i * 10 + 5, none⟩ (.slice (some ⟨H, 0, none⟩) 1 1)).setCell ⟨G, i * 10 + 6, none⟩ (.int .i64 0))) := by
      have kk : Ch (fun q => q = G) w3 ((w3.setCell ⟨G, i * 10 + 5, none⟩ (.slice (some ⟨H, 0, none⟩) 1 1)).setCell ⟨G, i * 10 + 6, none⟩ (.int .i64 0)) := ((Ch.refl (fun q => q = G) w3).set ⟨G, i * 10 + 5, none⟩ _ rfl).set ⟨G, i * 10 + 6, none⟩ _ rfl
      have hil := (List.getElem?_eq_some_iff.1 HI.out).1
      have g1 := gl_set HG3.out.2.2.2.gl i 5 (m' := ⟨m.c, .slice (some ⟨H, 0, none⟩) 1 1, m.f, m.S, m.b⟩) (.slice (some ⟨H, 0, none⟩) 1 1) HI.out (by decide) rfl
      have g2 := gl_set g1 i 6 (m' := widened m H) (.int .i64 0) (by rw [List.getElem?_set_self hil]) (by decide) (by unfold widened; rw [← HLL.out.2]; rfl)
      rw [List.set_set] at g2
      have g3 := HG3.out.1
      rw [HLL.out.1] at g3
      have hGH : H ≠ G := fun e => HHB.out (.inr (.inl e))
      have hown : GL 2 itL 119 ((w3.setCell ⟨G, i * 10 + 5, none⟩ (.slice (some ⟨H, 0, none⟩) 1 1)).setCell ⟨G, i * 10 + 6, none⟩ (.int .i64 0)) 0 (.slice (some ⟨H, 0, none⟩) (wd m.S.length) (wd m.S.length)) (m.c.L ++ List.replicate (wd m.S.length - m.S.length) iz) := by
        have g4 := g3.ch kk (fun q hq e => hGH (by simp only [Value.ownBlock, Option.some.injEq] at hq; rw [hq, e]))
        exact Eq.mp (congrArg (fun z => GL 2 itL 119 _ 0 (.slice (some ⟨H, 0, none⟩) z z) (m.c.L ++ List.replicate (wd m.S.length - m.S.length) iz)) HLL.out.2) g4
      have hCW := (HG3.out.2.1.mono (T := fun q => q = G) (fun x hx e => by have := HH.out; omega)).trans kk (fun _ _ e => e)
      refine ⟨?_, hCW⟩
      exact HQ.out.put (m' := widened m H) HI.out (hCW.mono (fun _ _ e => .inl e)) g2 (widened_ok HB.out.1 HB.out.2 hown) (fun q hq => by
        have e : some H = some q := hq
        simp only [Option.some.injEq] at e
        have := HH.out
        exact .inr (by omega))
    clear HB HLO
    go_wp2
    go_end0
    exact ⟨H, rfl, HFIN.out.1, HFIN.out.2, by rw [HH.out]; exact Nat.le_refl _, by simpa using HG3.out.2.2.1⟩

  · obtain ⟨n, hn⟩ : ∃ n, n = m.S.length := ⟨_, rfl⟩
    obtain ⟨f, hfe⟩ : ∃ f, f = m.f := ⟨_, rfl⟩
    have hf : f < n := by rcases hlo.fl with e | e <;> omega
    obtain ⟨x, hx⟩ : ∃ x, m.S[0]? = some x := ⟨_, List.getElem?_eq_getElem (by omega)⟩
    obtain ⟨g, cap, hv, x1, x2, x3⟩ := hlo.own.at itL_len 0 x hx
    clear x1 x2 x3
    rw [← hn] at hv
    have HV : Hid (m.v = .slice (some ⟨g, 0, none⟩) n cap ∧ m.f = f) := ⟨hv, hfe.symm⟩
    have c5 := (h.cell hi 5 rfl).trans (by rw [hv])
    obtain ⟨N, hN⟩ : ∃ N, N = 2 * n := ⟨_, rfl⟩
    obtain ⟨d, hd⟩ : ∃ d, d = n - f := ⟨_, rfl⟩
    have hcap0 := hlo.own
    rw [hv] at hcap0
    have hcap := hcap0.capm.1
    clear hcap0
    rw [← hn] at hcap
    have HNN : Hid (N = 2 * n ∧ d + f = n ∧ f < n ∧ n = m.S.length ∧ n ≤ 4095 ∧ n ≤ cap) := ⟨hN, by omega, hf, hn, by omega, hcap⟩
    have HRL : Hid ((m.S.drop f).length = d) := by show _ = _; rw [List.length_drop, hd, hn]
    have HRT : Hid ((m.S.take f).length = f) := by show _ = _; rw [List.length_take]; omega
    have wN : IntKind.i64.wrap (2 * (n : Int)) = (N : Int) := by rw [i64_s _ (by omega) (by omega)]; omega
    have a0 : (0 : Int) ≤ (f : Int) := by omega
    have a1 : (f : Int) ≤ (n : Int) := by omega
    have a2 : ((f : Int)).toNat = f := by omega
    have a3 : ¬ cap = f := by omega
    have a4 : f ≤ n := by omega
    have a5 : f ≤ cap := by omega
    have a6 : (0 : Int) ≤ (d : Int) := by omega
    have a7 : (d : Int) ≤ (N : Int) := by omega
    have a8 : ((d : Int)).toNat = d := by omega
    have a9 : ¬ N = d := by omega
    have a10 : d ≤ N := by omega
    have a11 : n - f = d := by omega
    have a12 : N ≤ 8190 := by omega
    clear h hi hlo hl hb h0 hv hfe hx hn hN hd hcap
    go_enter Try.func71, Try.ntmps71
    go_upto_region 1 with (first | (at_make; refine wpList_makeG itL_len (by decide) iz rfl (.tmp 10) (.tmp 10) 94 119 rfl Try.underlying94 zero_it w.heap.size _ _ N rfl rfl rfl rfl (by omega) (Nat.le_refl _) ?_; intro w1 gl1 b1) | (refine wpList_max (.const (.int .i64 1)) (.tmp 9) _ rfl 1 (N : Int) (N : Int) (by omega) rfl rfl rfl ?_))
    obtain ⟨H, hH⟩ : ∃ H, w.heap.size = H := ⟨_, rfl⟩
    rw [hH] at gl1 ⊢
    have HH : Hid (w.heap.size = H) := hH
    have HG1 : Hid (GL 2 itL 119 w1 0 (.slice (some ⟨H, 0, none⟩) N N) (List.replicate N iz) ∧ QA w1 P G ms t ∧ Ch (fun q => q = H) w w1 ∧ H < w1.heap.size ∧ LnOk w1 m) := ⟨gl1.mono (Nat.zero_le _), HQ.out.below b1, Ch.ofBelow b1, (gl1.kind H rfl).2.1, HLO.out.ch (Ch.ofBelow (S := fun _ => False) b1) (fun _ _ => id)⟩
    have HHB : Hid (¬ QB P G ms H) := fun hq => by have h1 := HQ.out.lt H hq; have h2 := HH.out; omega
    clear gl1 b1 hH c5
    refine MixH.start (fun A => QA A P G ms t) (by kernel_rfl) ?_
    obtain ⟨wA, hwA⟩ : ∃ wA, wA = w1.drew := ⟨_, rfl⟩
    have bdr : Below w1.heap.size w1 wA := by rw [hwA]; exact (Below.refl _ _).drew
    have hS : QA wA P G ms t := HG1.out.2.1.below bdr
    have HGA : Hid (GL 2 itL 119 wA 0 (.slice (some ⟨H, 0, none⟩) N N) (List.replicate N iz) ∧ LnOk wA m ∧ Ch (fun q => q = H) w wA ∧ H < wA.heap.size) := ⟨HG1.out.1.below bdr, HG1.out.2.2.2.2.ch (Ch.ofBelow (S := fun _ => False) bdr) (fun _ _ => id), HG1.out.2.2.1.trans (Ch.ofBelow (S := fun _ => False) bdr) (fun _ _ h => h.elim), Nat.lt_of_lt_of_le HG1.out.2.2.2.1 bdr.size⟩
    have HR1 : Hid (ListG 2 itL (fun _ => True) wA (some ⟨g, f * 2, none⟩) (m.S.drop f)) := by
      have h1 := HGA.out.2.1.own
      rw [HV.out.1] at h1
      have h2 := h1.drop itL_len f m.S.length
      rwa [List.take_of_length_le (by rw [List.length_drop]; omega)] at h2
    rw [← hwA]
    clear hwA bdr
    refine MixH.takes [true, true, true, true, false, true, true, true] 5 (by kernel_rfl) (by kernel_rfl) (by decide) (by kernel_rfl) hS (fun K hK => ?_)
    simp only [Mix.pick]
    repeat (go_big_quiet_step (fail))
    refine wpQuiet_nil (hK _ ?_)
    clear hK K
    refine MixH.take 4 4 _ (.slice (some ⟨g, 0, none⟩) n cap) rfl (by kernel_rfl) (by kernel_rfl) (by kernel_rfl) (by kernel_rfl) (yields_its (.tmp 15) rfl ⟨G, i * 10 + 5, none⟩ (.slice (some ⟨g, 0, none⟩) n cap) rfl rfl (fun A hA => (hA.cell HI.out 5 rfl).trans (by rw [HV.out.1]))) hS (fun a' ha => ?_)
    simp only [Act.put, List.setIfInBounds_toArray, List.set_cons_succ, List.set_cons_zero] at ha
    subst ha
    refine MixH.take 3 8 _ (.int .i64 (f : Nat)) rfl (by kernel_rfl) (by kernel_rfl) (by kernel_rfl) (by kernel_rfl) (yields_int (.tmp 19) rfl ⟨G, i * 10 + 6, none⟩ (.int .i64 (f : Nat)) rfl rfl (fun A hA => (hA.cell HI.out 6 rfl).trans (by rw [HV.out.2]))) hS (fun a' ha => ?_)
    simp only [Act.put, List.setIfInBounds_toArray, List.set_cons_succ, List.set_cons_zero] at ha
    subst ha
    refine MixH.takes [false, false, false, false, false, false, false, false, false, true] 2 (by kernel_rfl) (by kernel_rfl) (by decide) (by kernel_rfl) hS (fun K hK => ?_)
    simp only [Mix.pick]
    repeat (go_big_quiet_step (fail))
    refine wpQuiet_nil (hK _ ?_)
    clear hK K
    refine MixH.one [false, false, false, false, false, false, false, false, false, false, true] 1 10 _ rfl rfl (by kernel_rfl) (by kernel_rfl) (fun K hK => ?_)
    simp only [Mix.pick]
    refine wpList_copyG itL_len itL_one (by decide) rfl (.tmp 12) (.tmp 21) 94 119 rfl Try.underlying94 info_it 0 H N N (List.replicate N iz) (some ⟨H, 0, none⟩) 0 N N rfl (some ⟨g, f * 2, none⟩) d (cap - f) rfl (fun _ => True) (m.S.drop f) (by rw [HRL.out]; show d = min d N; have := HNN.out; omega) (fun _ => by rw [Nat.zero_mul]) HR1.out HGA.out.1 (by rw [HRL.out]; have := HNN.out; omega) ?_
    intro w2 gl2 k2
    rw [HRL.out]
    replace hS : QA w2 P G ms t := hS.ch k2 (fun q hq e => HHB.out (e ▸ hq))
    have HG2 : Hid (GL 2 itL 119 w2 0 (.slice (some ⟨H, 0, none⟩) N N) ((List.replicate N iz).take 0 ++ ((m.S.drop f) ++ (List.replicate N iz).drop (0 + (m.S.drop f).length))) ∧ LnOk w2 m ∧ Ch (fun q => q = H) w w2 ∧ H < w2.heap.size) := ⟨gl2, HGA.out.2.1.ch k2 (fun q hq e => HHB.out (e ▸ .inr (.inr ⟨m, List.mem_of_getElem? HI.out, hq⟩))), HGA.out.2.2.1.trans k2 (fun _ _ h => h), Nat.lt_of_lt_of_le HGA.out.2.2.2 k2.size⟩
    clear gl2 k2
    rw [show goInt d = .int .i64 (d : Int) from rfl]
    go_wp2_with fail
    refine ⟨rfl, hK _ _ hS ?_⟩
    clear hK K
    refine MixH.takes [false, false, false, false, false, false, false, false, false, false, false, true] 0 (by kernel_rfl) (by kernel_rfl) (by decide) (by kernel_rfl) hS (fun K hK => ?_)
    simp only [Mix.pick]
    repeat (go_big_quiet_step (fail))
    refine wpQuiet_nil (hK _ ?_)
    clear hK K
    refine MixH.done (by kernel_rfl) ?_

    go_upto_region 2 with fail
    refine MixH.start (fun A => QA A P G ms t) (by kernel_rfl) ?_
    obtain ⟨wB, hwA⟩ : ∃ wA, wA = w2.drew := ⟨_, rfl⟩
    have bdr : Below w2.heap.size w2 wB := by rw [hwA]; exact (Below.refl _ _).drew
    replace hS : QA wB P G ms t := hS.below bdr
    have HGB : Hid (GL 2 itL 119 wB 0 (.slice (some ⟨H, 0, none⟩) N N) ((List.replicate N iz).take 0 ++ ((m.S.drop f) ++ (List.replicate N iz).drop (0 + (m.S.drop f).length))) ∧ LnOk wB m ∧ Ch (fun q => q = H) w wB ∧ H < wB.heap.size) := ⟨HG2.out.1.below bdr, HG2.out.2.1.ch (Ch.ofBelow (S := fun _ => False) bdr) (fun _ _ => id), HG2.out.2.2.1.trans (Ch.ofBelow (S := fun _ => False) bdr) (fun _ _ h => h.elim), Nat.lt_of_lt_of_le HG2.out.2.2.2 bdr.size⟩
    have HR2 : Hid (ListG 2 itL (fun _ => True) wB (some ⟨g, 0, none⟩) (m.S.take f)) := by
      have h1 := HGB.out.2.1.own
      rw [HV.out.1] at h1
      have h2 := h1.drop itL_len 0 f
      rwa [List.drop_zero, Nat.zero_mul] at h2
    rw [← hwA]
    clear hwA bdr
    refine MixH.takes [true, true, true, true, true, true, false, true, true, true] 4 (by kernel_rfl) (by kernel_rfl) (by decide) (by kernel_rfl) hS (fun K hK => ?_)
    simp only [Mix.pick]
    repeat (go_big_quiet_step (fail))
    refine wpQuiet_nil (hK _ ?_)
    clear hK K
    refine MixH.take 3 6 _ (.slice (some ⟨g, 0, none⟩) n cap) rfl (by kernel_rfl) (by kernel_rfl) (by kernel_rfl) (by kernel_rfl) (yields_its (.tmp 28) rfl ⟨G, i * 10 + 5, none⟩ (.slice (some ⟨g, 0, none⟩) n cap) rfl rfl (fun A hA => (hA.cell HI.out 5 rfl).trans (by rw [HV.out.1]))) hS (fun a' ha => ?_)
    simp only [Act.put, List.setIfInBounds_toArray, List.set_cons_succ, List.set_cons_zero] at ha
    subst ha
    refine MixH.take 2 10 _ (.int .i64 (f : Nat)) rfl (by kernel_rfl) (by kernel_rfl) (by kernel_rfl) (by kernel_rfl) (yields_int (.tmp 32) rfl ⟨G, i * 10 + 6, none⟩ (.int .i64 (f : Nat)) rfl rfl (fun A hA => (hA.cell HI.out 6 rfl).trans (by rw [HV.out.2]))) hS (fun a' ha => ?_)
    simp only [Act.put, List.setIfInBounds_toArray, List.set_cons_succ, List.set_cons_zero] at ha
    subst ha
    refine MixH.takes [false, false, false, false, false, false, false, false, false, false, false, true] 1 (by kernel_rfl) (by kernel_rfl) (by decide) (by kernel_rfl) hS (fun K hK => ?_)
    simp only [Mix.pick]
    repeat (go_big_quiet_step (fail))
    refine wpQuiet_nil (hK _ ?_)
    clear hK K
    refine MixH.one [false, false, false, false, false, false, false, false, false, false, false, false, true] 0 12 _ rfl rfl (by kernel_rfl) (by kernel_rfl) (fun K hK => ?_)
    simp only [Mix.pick]
    refine wpList_copyG itL_len itL_one (by decide) rfl (.tmp 25) (.tmp 34) 94 119 rfl Try.underlying94 info_it 0 H N N ((List.replicate N iz).take 0 ++ ((m.S.drop f) ++ (List.replicate N iz).drop (0 + (m.S.drop f).length))) (some ⟨H, d * 2, none⟩) d (N - d) (N - d) rfl (some ⟨g, 0, none⟩) f cap rfl (fun _ => True) (m.S.take f) (by rw [HRT.out]; show f = min f (N - d); have := HNN.out; omega) (fun _ => rfl) HR2.out HGB.out.1 (by rw [HRT.out]; have := HNN.out; omega) ?_
    intro w3 gl3 k3
    replace hS : QA w3 P G ms t := hS.ch k3 (fun q hq e => HHB.out (e ▸ hq))
    have HG3 : Hid (GL 2 itL 119 w3 0 (.slice (some ⟨H, 0, none⟩) N N) (((List.replicate N iz).take 0 ++ ((m.S.drop f) ++ (List.replicate N iz).drop (0 + (m.S.drop f).length))).take d ++ ((m.S.take f) ++ ((List.replicate N iz).take 0 ++ ((m.S.drop f) ++ (List.replicate N iz).drop (0 + (m.S.drop f).length))).drop (d + (m.S.take f).length))) ∧ Ch (fun q => q = H) w w3 ∧ H < w3.heap.size ∧ QA w3 P G ms t) := ⟨gl3, HGB.out.2.2.1.trans k3 (fun _ _ h => h), Nat.lt_of_lt_of_le HGB.out.2.2.2 k3.size, hS⟩
    clear gl3 k3
    go_wp2_with fail
    refine ⟨rfl, hK _ _ hS ?_⟩
    clear hK K
    refine MixH.done (by kernel_rfl) ?_
    clear hS
    have HLL : Hid ((((List.replicate N iz).take 0 ++ ((m.S.drop f) ++ (List.replicate N iz).drop (0 + (m.S.drop f).length))).take d ++ ((m.S.take f) ++ ((List.replicate N iz).take 0 ++ ((m.S.drop f) ++ (List.replicate N iz).drop (0 + (m.S.drop f).length))).drop (d + (m.S.take f).length))) = m.c.L ++ List.replicate (wd m.S.length - m.S.length) iz ∧ N = wd m.S.length) := by
      have hn := HNN.out
      have hw : wd m.S.length = N := by unfold wd; rw [if_neg (by omega)]; omega
      have hd : m.S.length - f = d := by omega
      have hT := turned (S := m.S) (L := m.c.L) (f := f) (by omega) HB.out.1 (by have := HLO.out.at'; rw [HV.out.2] at this; exact this)
      have := laid2 m.S m.c.L f (by omega) N (by omega) hT _ rfl
      rw [hd] at this
      show _ ∧ _
      rw [hw]
      exact ⟨this, rfl⟩

    have d5 := HG3.out.2.2.2.cell HI.out 5 rfl
    have z5 := HG3.out.2.2.2.fzG (i * 10 + 5)
    have e6 : ∀ v, (w3.setCell ⟨G, i * 10 + 5, none⟩ v).cell? ⟨G, i * 10 + 6, none⟩ = some (.int .i64 (m.f : Int)) := fun v => by rw [World.cell?_setCell_other _ _ _ _ (by simp)]; exact HG3.out.2.2.2.cell HI.out 6 rfl
    have z6 : ∀ v, (w3.setCell ⟨G, i * 10 + 5, none⟩ v).frozen? ⟨G, i * 10 + 6, none⟩ = false := fun v => by rw [World.frozen?_setCell]; exact HG3.out.2.2.2.fzG _
    have HFIN : Hid (QA ((w3.setCell ⟨G, i * 10 + 5, none⟩ (.slice (some ⟨H, 0, none⟩) N N)).setCell ⟨G, i * 10 + 6, none⟩ (.int .i64 0)) P G (ms.set i (widened m H)) t ∧ Ch (fun q => q = G) w ((w3.setCell ⟨G, i * 10 + 5, none⟩ (.slice (some ⟨H, 0, none⟩) N N)).setCell ⟨G, i * 10 + 6, none⟩ (.int .i64 0))) := by
      have kk : Ch (fun q => q = G) w3 ((w3.setCell ⟨G, i * 10 + 5, none⟩ (.slice (some ⟨H, 0, none⟩) N N)).setCell ⟨G, i * 10 + 6, none⟩ (.int .i64 0)) := ((Ch.refl (fun q => q = G) w3).set ⟨G, i * 10 + 5, none⟩ _ rfl).set ⟨G, i * 10 + 6, none⟩ _ rfl
      have hil := (List.getElem?_eq_some_iff.1 HI.out).1
      have g1 := gl_set HG3.out.2.2.2.gl i 5 (m' := ⟨m.c, .slice (some ⟨H, 0, none⟩) N N, m.f, m.S, m.b⟩) (.slice (some ⟨H, 0, none⟩) N N) HI.out (by decide) rfl
      have g2 := gl_set g1 i 6 (m' := widened m H) (.int .i64 0) (by rw [List.getElem?_set_self hil]) (by decide) (by unfold widened; rw [← HLL.out.2]; rfl)
      rw [List.set_set] at g2
      have g3 := HG3.out.1
      rw [HLL.out.1] at g3
      have hGH : H ≠ G := fun e => HHB.out (.inr (.inl e))
      have hown : GL 2 itL 119 ((w3.setCell ⟨G, i * 10 + 5, none⟩ (.slice (some ⟨H, 0, none⟩) N N)).setCell ⟨G, i * 10 + 6, none⟩ (.int .i64 0)) 0 (.slice (some ⟨H, 0, none⟩) (wd m.S.length) (wd m.S.length)) (m.c.L ++ List.replicate (wd m.S.length - m.S.length) iz) := by
        have g4 := g3.ch kk (fun q hq e => hGH (by simp only [Value.ownBlock, Option.some.injEq] at hq; rw [hq, e]))
        exact Eq.mp (congrArg (fun z => GL 2 itL 119 _ 0 (.slice (some ⟨H, 0, none⟩) z z) (m.c.L ++ List.replicate (wd m.S.length - m.S.length) iz)) HLL.out.2) g4
      have hCW := (HG3.out.2.1.mono (T := fun q => q = G) (fun x hx e => by have := HH.out; omega)).trans kk (fun _ _ e => e)
      refine ⟨?_, hCW⟩
      exact HQ.out.put (m' := widened m H) HI.out (hCW.mono (fun _ _ e => .inl e)) g2 (widened_ok HB.out.1 HB.out.2 hown) (fun q hq => by
        have e : some H = some q := hq
        simp only [Option.some.injEq] at e
        have := HH.out
        exact .inr (by omega))
    clear HB HLO
    go_wp2
    go_end0
    exact ⟨H, rfl, HFIN.out.1, HFIN.out.2, by rw [HH.out]; exact Nat.le_refl _, by simpa using HG3.out.2.2.1⟩

end
end Go.Proofs.Ytclkcpdghpaboaa
