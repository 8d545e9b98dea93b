/-
  Layer 15's reference: put, with.
-/
import Derived.Test.YtialefdojeddjaaNrFn3
import Derived.Deep.CutBlock
namespace Go.Proofs.Ytialefdojeddjaa
open Go.RowKit Go.Maps

theorem ecs_set (L : List RE) (i : Nat) (r : RE) (h : i < L.length) : (ecs L).take (i * 29) ++ ((reC r).toList ++ (ecs L).drop (i * 29 + (reC r).toList.length)) = ecs (L.set i r) := by
  have e1 : (L.take i).length = i := by rw [List.length_take]; omega
  have e2 : ecs L = ecs (L.take i) ++ ecs (L.drop i) := by rw [← ecs_app, List.take_append_drop]
  have e3 : ecs (L.drop i) = (reC L[i]).toList ++ ecs (L.drop (i + 1)) := by rw [List.drop_eq_getElem_cons h, ecs_cons]
  have l1 : (ecs (L.take i)).length = i * 29 := by rw [ecs_len, e1]
  rw [List.set_eq_take_append_cons_drop, if_pos h, ecs_app, ecs_cons]
  congr 1
  · rw [e2, ← l1, List.take_left]
  · congr 1
    rw [e2, e3, ← List.append_assoc, show i * 29 + (reC r).toList.length = (ecs (L.take i) ++ (reC L[i]).toList).length by rw [List.length_append, l1]; rfl, List.drop_left]
theorem wpList_set_el {ops : Array Oper} {rest : List Oper} {o : Oper} {a : Act} {w : World} {Q : Exit → Act → World → Prop} (x y : Operand) (ho : o.op = .store 163 x y) (hd : o.dst = none) (base g n cap : Nat) (L : List RE) (i : Nat) (r : RE) (hx : a.eval x = .pointer (some ⟨g, i * 29, none⟩)) (hy : a.eval y = .agg (reC r)) (h : EL w base (.slice (some ⟨g, 0, none⟩) n cap) L) (hn : L.length = n) (hl : i < n)
    (hw : Region.wanted o (yielded ops a.tmps) = true) (hh : ∀ w', EL w' base (.slice (some ⟨g, 0, none⟩) n cap) (L.set i r) → Ch (fun q => q = g) w w' → wpList Try.prog ops Q rest a w') : wpList Try.prog ops Q (o :: rest) a w := by
  subst hn
  have h1 : w.ownsRow base 163 29 (.slice (some ⟨g, 0, none⟩) L.length cap) L.length (ecs L) := h
  have hxl := h1.1
  have ht : w.there g (i * 29) (reC r).size := fun j hj => by
    have hj' : j < 29 := hj
    rcases h1.2 with ⟨e, _⟩ | ⟨g', cap', cur, e, hb, hg, hnc, hcm, hcs, htk⟩
    · cases e
    · simp only [Value.slice.injEq, Option.some.injEq, Addr.mk.injEq, and_true, true_and] at e
      obtain ⟨rfl, rfl⟩ := e
      refine ⟨?_, by simp [World.frozen?, hg]⟩
      simp only [World.cell?, hg]
      rw [Array.getElem?_eq_getElem (by rw [hcs]; omega)]
      rfl
  refine wpList_step fun K hK => ?_
  rw [if_pos hw]
  refine wp_store_mid 163 x y ho g (i * 29) (reC r) hx hy ht Try.size_ren (by simp [reC, Value.oneCell']) (hK _ _ ?_)
  rw [hd]
  have h2 := own_setCells (reC r).toList (i * 29) w (ecs L) h1 (by rw [eC_len, hxl]; omega)
  rw [ecs_set L i r hl] at h2
  refine hh _ ?_ (ch_setCells w g _ _)
  show World.ownsRow _ base 163 29 _ (L.set i r).length (ecs (L.set i r))
  rw [List.length_set]
  exact h2
set_option maxHeartbeats 3200000 in
set_option maxRecDepth 100000 in
theorem rput_any (la : Option Addr) (n lc : Nat) (R : List RE) (i : Nat) (r : RE) (w : World) (hR : ER w la R) (hn : R.length = n) (hl : n ≤ 100000) (hi : i < n) : Calls Try.prog 96 #[.slice la n lc, .int .i64 (i : Int), .agg (reC r)] w fun e w' => ∃ v, e = .returned v ∧ EL w' w.heap.size v (R.set i r) ∧ Below w.heap.size w w' := by
  have HN : Hid (R.length = n ∧ n ≤ 100000 ∧ i < n) := ⟨hn, hl, hi⟩
  have HER : Hid (ER w la R) := hR
  have k0 : (0 : Int) ≤ (i : Int) := by omega
  have k1 : (i : Int) < (n : Int) := by omega
  have k2 : ((i : Int)).toNat = i := by omega
  clear hR hn hl
  have hb := ren_new w r
  have bel : Below w.heap.size w (w.alloc (.cells (reC r) 163)) := (Below.refl _ _).alloc (Nat.le_refl _) _
  obtain ⟨CX, hC⟩ : ∃ C, C = reC r := ⟨_, rfl⟩
  obtain ⟨W, hW⟩ : ∃ W, W = w.alloc (.cells (reC r) 163) := ⟨_, rfl⟩
  rw [← hW] at hb bel
  obtain ⟨B, hB⟩ : ∃ B, B = w.heap.size := ⟨_, rfl⟩
  rw [← hB] at hb
  have HBX : Hid (RenAt W B r ∧ Below w.heap.size w W) := ⟨hb, bel⟩
  rw [← hC] at hW ⊢
  have HOX : Hid (w.heap.size = B) := hB.symm
  have HWX : Hid (w.alloc (.cells CX 163) = W) := hW.symm
  clear hb hW hB hC bel
  go_enter Try.func96, Try.ntmps96
  go_upto_region 1 with fail
  rw [HOX.out, HWX.out]
  go_wp2_with (first | (refine wpList_app_er rfl (.tmp 8) (.tmp 9) rfl w.heap.size (.slice none 0 0) [] rfl (EL.nil _ _) la n lc R rfl HN.out.1 (HER.out.below HBX.out.2) (by simp) (by have := HN.out; omega) HBX.out.2.size ?_))
  intro v1 w1 h1 g1 hv1
  have b1 : Below W.heap.size W w1 := grown_below g1 (fun g hg => by cases hg) (Nat.le_refl _)
  obtain ⟨e, he⟩ : ∃ e, R[i]? = some e := ⟨_, List.getElem?_eq_getElem (by rw [HN.out.1]; exact hi)⟩
  obtain ⟨g, cap, rfl, hg1, hg2, _⟩ := h1.at i e he
  rw [HN.out.1] at h1 ⊢
  have HV : Hid (EL w1 w.heap.size (.slice (some ⟨g, 0, none⟩) n cap) R ∧ RenAt w1 B r ∧ Below w.heap.size w w1 ∧ w.heap.size ≤ g) := ⟨h1, HBX.out.1.below b1, bthen HBX.out.2 b1, hg1⟩
  clear h1 g1 b1 hv1 he hg1 hg2 HBX HWX
  go_wp2_with (first | (refine wpList_load_ren (.tmp 5) rfl B r rfl HV.out.2.1 rfl ?_) | (refine wpList_set_el (.tmp 14) (.tmp 13) rfl rfl w.heap.size g n cap R i r rfl rfl HV.out.1 HN.out.1 HN.out.2.2 rfl ?_))
  intro w2 h2 k2'
  have HE : Hid (EL w2 w.heap.size (.slice (some ⟨g, 0, none⟩) n cap) (R.set i r) ∧ Below w.heap.size w w2) := ⟨h2, HV.out.2.2.1.trans (k2'.below (fun q e => by have e' : q = g := e; have := HV.out.2.2.2; omega) HV.out.2.2.1.size)⟩
  clear h2 k2' HV
  go_wp2_with fail
  go_ret
  exact ⟨_, rfl, HE.out.1, HE.out.2⟩
theorem RenAt.ip {w : World} {O : Nat} {r : RE} (h : RenAt w O r) : w.rangeAt O 1 (ipCells r.n.k.V r.n.k.x).toList := by
  have e := RenAt.range h 1 17
  exact e
/-- where a new entry goes -/
def AtPl (R : List RE) (k : KV) (p : Nat) : Prop := p ≤ R.length ∧ (∀ j r, j < p → R[j]? = some r → lt3 r.n.k k) ∧ ∀ r, R[p]? = some r → ¬ lt3 r.n.k k
set_option maxHeartbeats 6400000 in
set_option maxRecDepth 100000 in
theorem rwith_any (la : Option Addr) (n lc : Nat) (R : List RE) (r : RE) (w : World) (hR : ER w la R) (hn : R.length = n) (hl : n ≤ 9000) (hc : n ≤ lc) (hc2 : lc ≤ 9223372036854775807) (hc0 : (la = none ∧ lc = 0) ∨ ∃ g off, la = some ⟨g, off, none⟩) (hx : ∀ e ∈ R, e.n.k.Wf) (hr : r.n.k.Wf) : Calls Try.prog 95 #[.slice la n lc, .agg (reC r)] w fun e w' => ∃ v p, e = .returned v ∧ AtPl R r.n.k p ∧ EL w' w.heap.size v (R.take p ++ r :: R.drop p) ∧ Below w.heap.size w w' := by
  have HN : Hid (R.length = n ∧ n ≤ 9000 ∧ n ≤ lc ∧ lc ≤ 9223372036854775807 ∧ ((la = none ∧ lc = 0) ∨ ∃ g off, la = some ⟨g, off, none⟩)) := ⟨hn, hl, hc, hc2, hc0⟩
  have HER : Hid (ER w la R) := hR
  have HWF : Hid ((∀ e ∈ R, e.n.k.Wf) ∧ r.n.k.Wf) := ⟨hx, hr⟩
  clear hR hn hl hc hc2 hc0 hx hr
  have hb := ren_new w r
  have bel : Below w.heap.size w (w.alloc (.cells (reC r) 163)) := (Below.refl _ _).alloc (Nat.le_refl _) _
  obtain ⟨CX, hC⟩ : ∃ C, C = reC r := ⟨_, rfl⟩
  obtain ⟨W, hW⟩ : ∃ W, W = w.alloc (.cells (reC r) 163) := ⟨_, rfl⟩
  rw [← hW] at hb bel
  obtain ⟨B, hB⟩ : ∃ B, B = w.heap.size := ⟨_, rfl⟩
  rw [← hB] at hb
  have HBX : Hid (RenAt W B r ∧ Below w.heap.size w W) := ⟨hb, bel⟩
  rw [← hC] at hW ⊢
  have HOX : Hid (w.heap.size = B) := hB.symm
  have HWX : Hid (w.alloc (.cells CX 163) = W) := hW.symm
  clear hb hW hB hC bel
  go_enter Try.func95, Try.ntmps95
  go_upto_region 1 with fail
  rw [HOX.out, HWX.out]
  go_upto_block 0 with fail
  go_cut [5] (fun ix wx => ∃ p : Nat, ix = .int .i64 (p : Int) ∧ p ≤ n ∧ Hid (AtPl R r.n.k p ∧ RenAt wx B r ∧ Below w.heap.size w wx))
  case first =>
    go_wp2_with fail
    go_loopw [5] (fun ix wr => ∃ i : Nat, ix = .int .i64 (i : Int) ∧ i ≤ n ∧ Hid (RenAt wr B r ∧ Below w.heap.size w wr) ∧ Hid (∀ j e, j < i → R[j]? = some e → lt3 e.n.k r.n.k)) (fun ix _ => n - (intOf ix).toNat)
    case atStart => exact ⟨0, rfl, by omega, HBX, fun j e h => by omega⟩
    case round =>
      obtain ⟨i, rfl, hi, HQ, HNO⟩ := hrel
      clear HBX
      by_cases hlt : i < n
      · have k0 : (0 : Int) ≤ (i : Int) := by omega
        have k1 : (i : Int) < (n : Int) := by omega
        have k2 : ((i : Int)).toNat = i := by omega
        have wi : IntKind.i64.wrap ((i : Int) + 1) = (i : Int) + 1 := by have := HN.out.2.1; rw [IntKind.wrap_i64]; omega
        obtain ⟨e, he⟩ : ∃ e, R[i]? = some e := ⟨_, List.getElem?_eq_getElem (by rw [HN.out.1]; exact hlt)⟩
        obtain ⟨g, off, hla, _, _⟩ := HER.out.at i e he
        subst hla
        have HRB : Hid (∀ A, Below w.heap.size w A → A.rangeAt g (off + i * 29) (reC e).toList) := fun A hA => by
          obtain ⟨g', off', hla', _, hrg⟩ := (HER.out.below hA).at i e he
          cases hla'
          exact hrg
        have HLT : Hid (i < n) := hlt
        have HEE : Hid (R[i]? = some e) := he
        have HXX : Hid ((∀ j, j < 16 → e.n.k.x j < 256) ∧ ∀ j, j < 16 → r.n.k.x j < 256) := ⟨(HWF.out.1 e (List.mem_of_getElem? he)).x, HWF.out.2.x⟩
        clear he hi
        by_cases hp1 : e.n.k.pt < r.n.k.pt
        · have q1 : decide (e.n.k.pt < r.n.k.pt) = true := by simpa using hp1
          have HL3 : Hid (lt3 e.n.k r.n.k) := .inl hp1
          clear hp1
          go_upto_region 2 with fail
          refine MixH.start (fun A => RenAt A B r ∧ A.rangeAt g (off + i * 29) (reC e).toList) (by kernel_rfl) ?_
          obtain ⟨wA, hwA⟩ : ∃ wA, wA = wr.drew := ⟨_, rfl⟩
          have bdr : Below wr.heap.size wr wA := by rw [hwA]; exact (Below.refl _ _).drew
          have HE0 : Hid (RenAt wA B r ∧ Below w.heap.size w wA) := ⟨HQ.out.1.below bdr, bthen HQ.out.2 bdr⟩
          have hS : RenAt wA B r ∧ wA.rangeAt g (off + i * 29) (reC e).toList := ⟨HE0.out.1, HRB.out wA HE0.out.2⟩
          rw [← hwA]
          clear hwA bdr HQ
          refine MixH.takes [true, true, true, true, true] 35 (by kernel_rfl) (by kernel_rfl) (by decide) (by kernel_rfl) hS (fun K hK => ?_)
          simp only [Mix.pick]
          repeat (go_big_quiet_step (fail))
          refine wpQuiet_nil (hK _ ?_)
          clear hK K
          refine MixH.takes [false, false, false, false, false, true, true, true, true, true] 30 (by kernel_rfl) (by kernel_rfl) (by decide) (by kernel_rfl) hS (fun K hK => ?_)
          simp only [Mix.pick]
          repeat (go_big_quiet_step (fail))
          refine wpQuiet_nil (hK _ ?_)
          clear hK K
          refine MixH.take 29 10 _ (.int .i64 e.n.k.pt) rfl (by kernel_rfl) (by kernel_rfl) (by kernel_rfl) (by kernel_rfl) (yields_int (.tmp 16) rfl ⟨g, off + i * 29, none⟩ (.int .i64 e.n.k.pt) rfl rfl (fun A hA => hA.2 0 _ rfl)) hS (fun a' ha => ?_)
          simp only [Act.put, List.setIfInBounds_toArray, List.set_cons_succ, List.set_cons_zero] at ha
          subst ha
          refine MixH.takes [false, false, false, false, false, false, false, false, false, false, false, true, true] 27 (by kernel_rfl) (by kernel_rfl) (by decide) (by kernel_rfl) hS (fun K hK => ?_)
          simp only [Mix.pick]
          repeat (go_big_quiet_step (fail))
          refine wpQuiet_nil (hK _ ?_)
          clear hK K
          refine MixH.take 26 13 _ (.int .i64 r.n.k.pt) rfl (by kernel_rfl) (by kernel_rfl) (by kernel_rfl) (by kernel_rfl) (yields_int (.tmp 19) rfl ⟨B, 0, none⟩ (.int .i64 r.n.k.pt) rfl rfl (fun A hA => hA.1.cell 0)) hS (fun a' ha => ?_)
          simp only [Act.put, List.setIfInBounds_toArray, List.set_cons_succ, List.set_cons_zero] at ha
          subst ha
          refine MixH.takes [false, false, false, false, false, false, false, false, false, false, false, false, false, false, true, true] 24 (by kernel_rfl) (by kernel_rfl) (by decide) (by kernel_rfl) hS (fun K hK => ?_)
          simp only [Mix.pick]
          repeat (go_big_quiet_step (fail))
          refine wpQuiet_nil (hK _ ?_)
          clear hK K
          refine MixH.take 23 16 _ (undef) rfl (by kernel_rfl) (by kernel_rfl) (by kernel_rfl) (by kernel_rfl) (.inr ⟨rfl, rfl⟩) hS (fun a' ha => ?_)
          simp only [Act.put, List.setIfInBounds_toArray, List.set_cons_succ, List.set_cons_zero] at ha
          subst ha
          refine MixH.take 22 17 _ (undef) rfl (by kernel_rfl) (by kernel_rfl) (by kernel_rfl) (by kernel_rfl) (.inr ⟨rfl, rfl⟩) hS (fun a' ha => ?_)
          simp only [Act.put, List.setIfInBounds_toArray, List.set_cons_succ, List.set_cons_zero] at ha
          subst ha
          refine MixH.take 21 18 _ (undef) rfl (by kernel_rfl) (by kernel_rfl) (by kernel_rfl) (by kernel_rfl) (.inr ⟨rfl, rfl⟩) hS (fun a' ha => ?_)
          simp only [Act.put, List.setIfInBounds_toArray, List.set_cons_succ, List.set_cons_zero] at ha
          subst ha
          refine MixH.take 20 19 _ (undef) rfl (by kernel_rfl) (by kernel_rfl) (by kernel_rfl) (by kernel_rfl) (.inr ⟨rfl, rfl⟩) hS (fun a' ha => ?_)
          simp only [Act.put, List.setIfInBounds_toArray, List.set_cons_succ, List.set_cons_zero] at ha
          subst ha
          refine MixH.take 19 20 _ (undef) rfl (by kernel_rfl) (by kernel_rfl) (by kernel_rfl) (by kernel_rfl) (.inr ⟨rfl, rfl⟩) hS (fun a' ha => ?_)
          simp only [Act.put, List.setIfInBounds_toArray, List.set_cons_succ, List.set_cons_zero] at ha
          subst ha
          refine MixH.take 18 21 _ (undef) rfl (by kernel_rfl) (by kernel_rfl) (by kernel_rfl) (by kernel_rfl) (.inr ⟨rfl, rfl⟩) hS (fun a' ha => ?_)
          simp only [Act.put, List.setIfInBounds_toArray, List.set_cons_succ, List.set_cons_zero] at ha
          subst ha
          refine MixH.take 17 22 _ (undef) rfl (by kernel_rfl) (by kernel_rfl) (by kernel_rfl) (by kernel_rfl) (.inr ⟨rfl, rfl⟩) hS (fun a' ha => ?_)
          simp only [Act.put, List.setIfInBounds_toArray, List.set_cons_succ, List.set_cons_zero] at ha
          subst ha
          refine MixH.take 16 23 _ (undef) rfl (by kernel_rfl) (by kernel_rfl) (by kernel_rfl) (by kernel_rfl) (.inr ⟨rfl, rfl⟩) hS (fun a' ha => ?_)
          simp only [Act.put, List.setIfInBounds_toArray, List.set_cons_succ, List.set_cons_zero] at ha
          subst ha
          refine MixH.take 15 24 _ (undef) rfl (by kernel_rfl) (by kernel_rfl) (by kernel_rfl) (by kernel_rfl) (.inr ⟨rfl, rfl⟩) hS (fun a' ha => ?_)
          simp only [Act.put, List.setIfInBounds_toArray, List.set_cons_succ, List.set_cons_zero] at ha
          subst ha
          refine MixH.take 14 25 _ (undef) rfl (by kernel_rfl) (by kernel_rfl) (by kernel_rfl) (by kernel_rfl) (.inr ⟨rfl, rfl⟩) hS (fun a' ha => ?_)
          simp only [Act.put, List.setIfInBounds_toArray, List.set_cons_succ, List.set_cons_zero] at ha
          subst ha
          refine MixH.take 13 26 _ (undef) rfl (by kernel_rfl) (by kernel_rfl) (by kernel_rfl) (by kernel_rfl) (.inr ⟨rfl, rfl⟩) hS (fun a' ha => ?_)
          simp only [Act.put, List.setIfInBounds_toArray, List.set_cons_succ, List.set_cons_zero] at ha
          subst ha
          refine MixH.take 12 27 _ (undef) rfl (by kernel_rfl) (by kernel_rfl) (by kernel_rfl) (by kernel_rfl) (.inr ⟨rfl, rfl⟩) hS (fun a' ha => ?_)
          simp only [Act.put, List.setIfInBounds_toArray, List.set_cons_succ, List.set_cons_zero] at ha
          subst ha
          refine MixH.take 11 28 _ (undef) rfl (by kernel_rfl) (by kernel_rfl) (by kernel_rfl) (by kernel_rfl) (.inr ⟨rfl, rfl⟩) hS (fun a' ha => ?_)
          simp only [Act.put, List.setIfInBounds_toArray, List.set_cons_succ, List.set_cons_zero] at ha
          subst ha
          refine MixH.take 10 29 _ (undef) rfl (by kernel_rfl) (by kernel_rfl) (by kernel_rfl) (by kernel_rfl) (.inr ⟨rfl, rfl⟩) hS (fun a' ha => ?_)
          simp only [Act.put, List.setIfInBounds_toArray, List.set_cons_succ, List.set_cons_zero] at ha
          subst ha
          refine MixH.take 9 30 _ (undef) rfl (by kernel_rfl) (by kernel_rfl) (by kernel_rfl) (by kernel_rfl) (.inr ⟨rfl, rfl⟩) hS (fun a' ha => ?_)
          simp only [Act.put, List.setIfInBounds_toArray, List.set_cons_succ, List.set_cons_zero] at ha
          subst ha
          refine MixH.take 8 31 _ (undef) rfl (by kernel_rfl) (by kernel_rfl) (by kernel_rfl) (by kernel_rfl) (.inr ⟨rfl, rfl⟩) hS (fun a' ha => ?_)
          simp only [Act.put, List.setIfInBounds_toArray, List.set_cons_succ, List.set_cons_zero] at ha
          subst ha
          refine MixH.take 7 32 _ (undef) rfl (by kernel_rfl) (by kernel_rfl) (by kernel_rfl) (by kernel_rfl) (.inr ⟨rfl, rfl⟩) hS (fun a' ha => ?_)
          simp only [Act.put, List.setIfInBounds_toArray, List.set_cons_succ, List.set_cons_zero] at ha
          subst ha
          refine MixH.take 6 33 _ (undef) rfl (by kernel_rfl) (by kernel_rfl) (by kernel_rfl) (by kernel_rfl) (.inr ⟨rfl, rfl⟩) hS (fun a' ha => ?_)
          simp only [Act.put, List.setIfInBounds_toArray, List.set_cons_succ, List.set_cons_zero] at ha
          subst ha
          refine MixH.take 5 34 _ (undef) rfl (by kernel_rfl) (by kernel_rfl) (by kernel_rfl) (by kernel_rfl) (.inr ⟨rfl, rfl⟩) hS (fun a' ha => ?_)
          simp only [Act.put, List.setIfInBounds_toArray, List.set_cons_succ, List.set_cons_zero] at ha
          subst ha
          refine MixH.take 4 35 _ (undef) rfl (by kernel_rfl) (by kernel_rfl) (by kernel_rfl) (by kernel_rfl) (.inr ⟨rfl, rfl⟩) hS (fun a' ha => ?_)
          simp only [Act.put, List.setIfInBounds_toArray, List.set_cons_succ, List.set_cons_zero] at ha
          subst ha
          refine MixH.take 3 36 _ (undef) rfl (by kernel_rfl) (by kernel_rfl) (by kernel_rfl) (by kernel_rfl) (.inr ⟨rfl, rfl⟩) hS (fun a' ha => ?_)
          simp only [Act.put, List.setIfInBounds_toArray, List.set_cons_succ, List.set_cons_zero] at ha
          subst ha
          refine MixH.take 2 37 _ (undef) rfl (by kernel_rfl) (by kernel_rfl) (by kernel_rfl) (by kernel_rfl) (.inr ⟨rfl, rfl⟩) hS (fun a' ha => ?_)
          simp only [Act.put, List.setIfInBounds_toArray, List.set_cons_succ, List.set_cons_zero] at ha
          subst ha
          refine MixH.takes [false, false, false, false, false, false, false, false, false, false, false, false, false, false, false, false, false, false, false, false, false, false, false, false, false, false, false, false, false, false, false, false, false, false, false, false, false, false, true, true] 0 (by kernel_rfl) (by kernel_rfl) (by decide) (by kernel_rfl) hS (fun K hK => ?_)
          simp only [Mix.pick]
          repeat (go_big_quiet_step (fail))
          refine wpQuiet_nil (hK _ ?_)
          clear hK K
          refine MixH.done (by kernel_rfl) ?_
          clear hS
          go_wp2
          go_roundw
          case rel => exact ⟨i + 1, by first | rfl | go_num, by have := HLT.out; omega, HE0, fun j f h1 h2 => by
            by_cases h : j = i
            · subst h
              rw [HEE.out] at h2
              cases h2
              exact HL3.out
            · exact HNO.out j f (by omega) h2⟩
          case measure => have := HLT.out; simp [intOf]; omega
        · have q1 : decide (e.n.k.pt < r.n.k.pt) = false := by simpa using hp1
          by_cases hp2 : e.n.k.pt = r.n.k.pt
          · have q2 : (e.n.k.pt == r.n.k.pt) = true := by simpa using hp2
            have HPE : Hid (e.n.k.pt = r.n.k.pt) := hp2
            clear hp1 hp2
            go_upto_region 2 with fail
            refine MixH.start (fun A => RenAt A B r ∧ A.rangeAt g (off + i * 29) (reC e).toList) (by kernel_rfl) ?_
            obtain ⟨wA, hwA⟩ : ∃ wA, wA = wr.drew := ⟨_, rfl⟩
            have bdr : Below wr.heap.size wr wA := by rw [hwA]; exact (Below.refl _ _).drew
            have HE0 : Hid (RenAt wA B r ∧ Below w.heap.size w wA) := ⟨HQ.out.1.below bdr, bthen HQ.out.2 bdr⟩
            have hS : RenAt wA B r ∧ wA.rangeAt g (off + i * 29) (reC e).toList := ⟨HE0.out.1, HRB.out wA HE0.out.2⟩
            rw [← hwA]
            clear hwA bdr HQ
            refine MixH.takes [true, true, true, true, true] 35 (by kernel_rfl) (by kernel_rfl) (by decide) (by kernel_rfl) hS (fun K hK => ?_)
            simp only [Mix.pick]
            repeat (go_big_quiet_step (fail))
            refine wpQuiet_nil (hK _ ?_)
            clear hK K
            refine MixH.takes [false, false, false, false, false, true, true, true, true, true] 30 (by kernel_rfl) (by kernel_rfl) (by decide) (by kernel_rfl) hS (fun K hK => ?_)
            simp only [Mix.pick]
            repeat (go_big_quiet_step (fail))
            refine wpQuiet_nil (hK _ ?_)
            clear hK K
            refine MixH.take 29 10 _ (.int .i64 e.n.k.pt) rfl (by kernel_rfl) (by kernel_rfl) (by kernel_rfl) (by kernel_rfl) (yields_int (.tmp 16) rfl ⟨g, off + i * 29, none⟩ (.int .i64 e.n.k.pt) rfl rfl (fun A hA => hA.2 0 _ rfl)) hS (fun a' ha => ?_)
            simp only [Act.put, List.setIfInBounds_toArray, List.set_cons_succ, List.set_cons_zero] at ha
            subst ha
            refine MixH.takes [false, false, false, false, false, false, false, false, false, false, false, true, true] 27 (by kernel_rfl) (by kernel_rfl) (by decide) (by kernel_rfl) hS (fun K hK => ?_)
            simp only [Mix.pick]
            repeat (go_big_quiet_step (fail))
            refine wpQuiet_nil (hK _ ?_)
            clear hK K
            refine MixH.take 26 13 _ (.int .i64 r.n.k.pt) rfl (by kernel_rfl) (by kernel_rfl) (by kernel_rfl) (by kernel_rfl) (yields_int (.tmp 19) rfl ⟨B, 0, none⟩ (.int .i64 r.n.k.pt) rfl rfl (fun A hA => hA.1.cell 0)) hS (fun a' ha => ?_)
            simp only [Act.put, List.setIfInBounds_toArray, List.set_cons_succ, List.set_cons_zero] at ha
            subst ha
            refine MixH.takes [false, false, false, false, false, false, false, false, false, false, false, false, false, false, true, true] 24 (by kernel_rfl) (by kernel_rfl) (by decide) (by kernel_rfl) hS (fun K hK => ?_)
            simp only [Mix.pick]
            repeat (go_big_quiet_step (fail))
            refine wpQuiet_nil (hK _ ?_)
            clear hK K
            refine MixH.takes [false, false, false, false, false, false, false, false, false, false, false, false, false, false, false, false, true, true, true, true, true] 19 (by kernel_rfl) (by kernel_rfl) (by decide) (by kernel_rfl) hS (fun K hK => ?_)
            simp only [Mix.pick]
            repeat (go_big_quiet_step (fail))
            refine wpQuiet_nil (hK _ ?_)
            clear hK K
            refine MixH.take 18 21 _ (.int .i64 e.n.k.pt) rfl (by kernel_rfl) (by kernel_rfl) (by kernel_rfl) (by kernel_rfl) (yields_int (.tmp 27) rfl ⟨g, off + i * 29, none⟩ (.int .i64 e.n.k.pt) rfl rfl (fun A hA => hA.2 0 _ rfl)) hS (fun a' ha => ?_)
            simp only [Act.put, List.setIfInBounds_toArray, List.set_cons_succ, List.set_cons_zero] at ha
            subst ha
            refine MixH.takes [false, false, false, false, false, false, false, false, false, false, false, false, false, false, false, false, false, false, false, false, false, false, true, true] 16 (by kernel_rfl) (by kernel_rfl) (by decide) (by kernel_rfl) hS (fun K hK => ?_)
            simp only [Mix.pick]
            repeat (go_big_quiet_step (fail))
            refine wpQuiet_nil (hK _ ?_)
            clear hK K
            refine MixH.take 15 24 _ (.int .i64 r.n.k.pt) rfl (by kernel_rfl) (by kernel_rfl) (by kernel_rfl) (by kernel_rfl) (yields_int (.tmp 30) rfl ⟨B, 0, none⟩ (.int .i64 r.n.k.pt) rfl rfl (fun A hA => hA.1.cell 0)) hS (fun a' ha => ?_)
            simp only [Act.put, List.setIfInBounds_toArray, List.set_cons_succ, List.set_cons_zero] at ha
            subst ha
            refine MixH.takes [false, false, false, false, false, false, false, false, false, false, false, false, false, false, false, false, false, false, false, false, false, false, false, false, false, true, true] 13 (by kernel_rfl) (by kernel_rfl) (by decide) (by kernel_rfl) hS (fun K hK => ?_)
            simp only [Mix.pick]
            repeat (go_big_quiet_step (fail))
            refine wpQuiet_nil (hK _ ?_)
            clear hK K
            refine MixH.takes [false, false, false, false, false, false, false, false, false, false, false, false, false, false, false, false, false, false, false, false, false, false, false, false, false, false, false, true, true, true, true, true] 8 (by kernel_rfl) (by kernel_rfl) (by decide) (by kernel_rfl) hS (fun K hK => ?_)
            simp only [Mix.pick]
            repeat (go_big_quiet_step (fail))
            refine wpQuiet_nil (hK _ ?_)
            clear hK K
            refine MixH.take 7 32 _ (.agg (ipCells e.n.k.V e.n.k.x)) rfl (by kernel_rfl) (by kernel_rfl) (by kernel_rfl) (by kernel_rfl) (yields_ipr (.tmp 38) rfl g (off + i * 29 + 1) e.n.k.V e.n.k.x rfl rfl (fun A hA => re_ip hA.2)) hS (fun a' ha => ?_)
            simp only [Act.put, List.setIfInBounds_toArray, List.set_cons_succ, List.set_cons_zero] at ha
            subst ha
            refine MixH.takes [false, false, false, false, false, false, false, false, false, false, false, false, false, false, false, false, false, false, false, false, false, false, false, false, false, false, false, false, false, false, false, false, false, true, true] 5 (by kernel_rfl) (by kernel_rfl) (by decide) (by kernel_rfl) hS (fun K hK => ?_)
            simp only [Mix.pick]
            repeat (go_big_quiet_step (fail))
            refine wpQuiet_nil (hK _ ?_)
            clear hK K
            refine MixH.take 4 35 _ (.agg (ipCells r.n.k.V r.n.k.x)) rfl (by kernel_rfl) (by kernel_rfl) (by kernel_rfl) (by kernel_rfl) (yields_ipr (.tmp 41) rfl B 1 r.n.k.V r.n.k.x rfl rfl (fun A hA => hA.1.ip)) hS (fun a' ha => ?_)
            simp only [Act.put, List.setIfInBounds_toArray, List.set_cons_succ, List.set_cons_zero] at ha
            subst ha
            refine MixH.one [false, false, false, false, false, false, false, false, false, false, false, false, false, false, false, false, false, false, false, false, false, false, false, false, false, false, false, false, false, false, false, false, false, false, false, false, true] 3 36 _ rfl rfl (by kernel_rfl) (by kernel_rfl) (fun K hK => ?_)
            simp only [Mix.pick]
            go_wp2_with fail
            refine Calls.mono (rless_any 0 e.n.k.V r.n.k.V e.n.k.x r.n.k.x HXX.out.1 HXX.out.2 wA) ?_
            rintro r0 wB ⟨bb, rfl, hbb, bB⟩
            replace hS : RenAt wB B r ∧ wB.rangeAt g (off + i * 29) (reC e).toList := ⟨hS.1.below bB, HRB.out wB (bthen HE0.out.2 bB)⟩
            have HE1 : Hid (RenAt wB B r ∧ Below w.heap.size w wB) := ⟨hS.1, bthen HE0.out.2 bB⟩
            have HLT3 : Hid (bb = true ↔ lt3 e.n.k r.n.k) := by
              have hp := HPE.out
              have : lt3 ⟨0, e.n.k.V, e.n.k.x⟩ ⟨0, r.n.k.V, r.n.k.x⟩ ↔ lt3 e.n.k r.n.k := by
                unfold lt3 cB
                constructor
                · rintro (h | ⟨_, h⟩)
                  · exact absurd h (Int.lt_irrefl _)
                  · exact .inr ⟨hp, h⟩
                · rintro (h | ⟨_, h⟩)
                  · omega
                  · exact .inr ⟨rfl, h⟩
              exact hbb.trans this
            clear bB hbb HE0
            go_wp2_with fail
            refine ⟨rfl, hK _ _ hS ?_⟩
            clear hK K
            refine MixH.takes [false, false, false, false, false, false, false, false, false, false, false, false, false, false, false, false, false, false, false, false, false, false, false, false, false, false, false, false, false, false, false, false, false, false, false, false, false, true, true, true] 0 (by kernel_rfl) (by kernel_rfl) (by decide) (by kernel_rfl) hS (fun K hK => ?_)
            simp only [Mix.pick]
            repeat (go_big_quiet_step (fail))
            refine wpQuiet_nil (hK _ ?_)
            clear hK K
            refine MixH.done (by kernel_rfl) ?_
            clear hS
            cases bb with
            | true =>
              go_wp2
              go_roundw
              case rel => exact ⟨i + 1, by first | rfl | go_num, by have := HLT.out; omega, HE1, fun j f h1 h2 => by
                by_cases h : j = i
                · subst h
                  rw [HEE.out] at h2
                  cases h2
                  exact HLT3.out.1 rfl
                · exact HNO.out j f (by omega) h2⟩
              case measure => have := HLT.out; simp [intOf]; omega
            | false =>
              go_wp2
              go_meet
              exact ⟨i, rfl, by have := HLT.out; omega, ⟨by have := HLT.out; have := HN.out.1; omega, HNO.out, fun f hf hl3 => by rw [HEE.out] at hf; cases hf; have := HLT3.out.2 hl3; cases this⟩, HE1.out.1, HE1.out.2⟩
          · have q2 : (e.n.k.pt == r.n.k.pt) = false := by simpa using hp2
            have HL3 : Hid (¬ lt3 e.n.k r.n.k) := by
              rintro (h | ⟨h, _⟩)
              · exact hp1 h
              · exact hp2 h
            clear hp1 hp2
            go_upto_region 2 with fail
            refine MixH.start (fun A => RenAt A B r ∧ A.rangeAt g (off + i * 29) (reC e).toList) (by kernel_rfl) ?_
            obtain ⟨wA, hwA⟩ : ∃ wA, wA = wr.drew := ⟨_, rfl⟩
            have bdr : Below wr.heap.size wr wA := by rw [hwA]; exact (Below.refl _ _).drew
            have HE0 : Hid (RenAt wA B r ∧ Below w.heap.size w wA) := ⟨HQ.out.1.below bdr, bthen HQ.out.2 bdr⟩
            have hS : RenAt wA B r ∧ wA.rangeAt g (off + i * 29) (reC e).toList := ⟨HE0.out.1, HRB.out wA HE0.out.2⟩
            rw [← hwA]
            clear hwA bdr HQ
            refine MixH.takes [true, true, true, true, true] 35 (by kernel_rfl) (by kernel_rfl) (by decide) (by kernel_rfl) hS (fun K hK => ?_)
            simp only [Mix.pick]
            repeat (go_big_quiet_step (fail))
            refine wpQuiet_nil (hK _ ?_)
            clear hK K
            refine MixH.takes [false, false, false, false, false, true, true, true, true, true] 30 (by kernel_rfl) (by kernel_rfl) (by decide) (by kernel_rfl) hS (fun K hK => ?_)
            simp only [Mix.pick]
            repeat (go_big_quiet_step (fail))
            refine wpQuiet_nil (hK _ ?_)
            clear hK K
            refine MixH.take 29 10 _ (.int .i64 e.n.k.pt) rfl (by kernel_rfl) (by kernel_rfl) (by kernel_rfl) (by kernel_rfl) (yields_int (.tmp 16) rfl ⟨g, off + i * 29, none⟩ (.int .i64 e.n.k.pt) rfl rfl (fun A hA => hA.2 0 _ rfl)) hS (fun a' ha => ?_)
            simp only [Act.put, List.setIfInBounds_toArray, List.set_cons_succ, List.set_cons_zero] at ha
            subst ha
            refine MixH.takes [false, false, false, false, false, false, false, false, false, false, false, true, true] 27 (by kernel_rfl) (by kernel_rfl) (by decide) (by kernel_rfl) hS (fun K hK => ?_)
            simp only [Mix.pick]
            repeat (go_big_quiet_step (fail))
            refine wpQuiet_nil (hK _ ?_)
            clear hK K
            refine MixH.take 26 13 _ (.int .i64 r.n.k.pt) rfl (by kernel_rfl) (by kernel_rfl) (by kernel_rfl) (by kernel_rfl) (yields_int (.tmp 19) rfl ⟨B, 0, none⟩ (.int .i64 r.n.k.pt) rfl rfl (fun A hA => hA.1.cell 0)) hS (fun a' ha => ?_)
            simp only [Act.put, List.setIfInBounds_toArray, List.set_cons_succ, List.set_cons_zero] at ha
            subst ha
            refine MixH.takes [false, false, false, false, false, false, false, false, false, false, false, false, false, false, true, true] 24 (by kernel_rfl) (by kernel_rfl) (by decide) (by kernel_rfl) hS (fun K hK => ?_)
            simp only [Mix.pick]
            repeat (go_big_quiet_step (fail))
            refine wpQuiet_nil (hK _ ?_)
            clear hK K
            refine MixH.takes [false, false, false, false, false, false, false, false, false, false, false, false, false, false, false, false, true, true, true, true, true] 19 (by kernel_rfl) (by kernel_rfl) (by decide) (by kernel_rfl) hS (fun K hK => ?_)
            simp only [Mix.pick]
            repeat (go_big_quiet_step (fail))
            refine wpQuiet_nil (hK _ ?_)
            clear hK K
            refine MixH.take 18 21 _ (.int .i64 e.n.k.pt) rfl (by kernel_rfl) (by kernel_rfl) (by kernel_rfl) (by kernel_rfl) (yields_int (.tmp 27) rfl ⟨g, off + i * 29, none⟩ (.int .i64 e.n.k.pt) rfl rfl (fun A hA => hA.2 0 _ rfl)) hS (fun a' ha => ?_)
            simp only [Act.put, List.setIfInBounds_toArray, List.set_cons_succ, List.set_cons_zero] at ha
            subst ha
            refine MixH.takes [false, false, false, false, false, false, false, false, false, false, false, false, false, false, false, false, false, false, false, false, false, false, true, true] 16 (by kernel_rfl) (by kernel_rfl) (by decide) (by kernel_rfl) hS (fun K hK => ?_)
            simp only [Mix.pick]
            repeat (go_big_quiet_step (fail))
            refine wpQuiet_nil (hK _ ?_)
            clear hK K
            refine MixH.take 15 24 _ (.int .i64 r.n.k.pt) rfl (by kernel_rfl) (by kernel_rfl) (by kernel_rfl) (by kernel_rfl) (yields_int (.tmp 30) rfl ⟨B, 0, none⟩ (.int .i64 r.n.k.pt) rfl rfl (fun A hA => hA.1.cell 0)) hS (fun a' ha => ?_)
            simp only [Act.put, List.setIfInBounds_toArray, List.set_cons_succ, List.set_cons_zero] at ha
            subst ha
            refine MixH.takes [false, false, false, false, false, false, false, false, false, false, false, false, false, false, false, false, false, false, false, false, false, false, false, false, false, true, true] 13 (by kernel_rfl) (by kernel_rfl) (by decide) (by kernel_rfl) hS (fun K hK => ?_)
            simp only [Mix.pick]
            repeat (go_big_quiet_step (fail))
            refine wpQuiet_nil (hK _ ?_)
            clear hK K
            refine MixH.take 12 27 _ (undef) rfl (by kernel_rfl) (by kernel_rfl) (by kernel_rfl) (by kernel_rfl) (.inr ⟨rfl, rfl⟩) hS (fun a' ha => ?_)
            simp only [Act.put, List.setIfInBounds_toArray, List.set_cons_succ, List.set_cons_zero] at ha
            subst ha
            refine MixH.take 11 28 _ (undef) rfl (by kernel_rfl) (by kernel_rfl) (by kernel_rfl) (by kernel_rfl) (.inr ⟨rfl, rfl⟩) hS (fun a' ha => ?_)
            simp only [Act.put, List.setIfInBounds_toArray, List.set_cons_succ, List.set_cons_zero] at ha
            subst ha
            refine MixH.take 10 29 _ (undef) rfl (by kernel_rfl) (by kernel_rfl) (by kernel_rfl) (by kernel_rfl) (.inr ⟨rfl, rfl⟩) hS (fun a' ha => ?_)
            simp only [Act.put, List.setIfInBounds_toArray, List.set_cons_succ, List.set_cons_zero] at ha
            subst ha
            refine MixH.take 9 30 _ (undef) rfl (by kernel_rfl) (by kernel_rfl) (by kernel_rfl) (by kernel_rfl) (.inr ⟨rfl, rfl⟩) hS (fun a' ha => ?_)
            simp only [Act.put, List.setIfInBounds_toArray, List.set_cons_succ, List.set_cons_zero] at ha
            subst ha
            refine MixH.take 8 31 _ (undef) rfl (by kernel_rfl) (by kernel_rfl) (by kernel_rfl) (by kernel_rfl) (.inr ⟨rfl, rfl⟩) hS (fun a' ha => ?_)
            simp only [Act.put, List.setIfInBounds_toArray, List.set_cons_succ, List.set_cons_zero] at ha
            subst ha
            refine MixH.take 7 32 _ (undef) rfl (by kernel_rfl) (by kernel_rfl) (by kernel_rfl) (by kernel_rfl) (.inr ⟨rfl, rfl⟩) hS (fun a' ha => ?_)
            simp only [Act.put, List.setIfInBounds_toArray, List.set_cons_succ, List.set_cons_zero] at ha
            subst ha
            refine MixH.take 6 33 _ (undef) rfl (by kernel_rfl) (by kernel_rfl) (by kernel_rfl) (by kernel_rfl) (.inr ⟨rfl, rfl⟩) hS (fun a' ha => ?_)
            simp only [Act.put, List.setIfInBounds_toArray, List.set_cons_succ, List.set_cons_zero] at ha
            subst ha
            refine MixH.take 5 34 _ (undef) rfl (by kernel_rfl) (by kernel_rfl) (by kernel_rfl) (by kernel_rfl) (.inr ⟨rfl, rfl⟩) hS (fun a' ha => ?_)
            simp only [Act.put, List.setIfInBounds_toArray, List.set_cons_succ, List.set_cons_zero] at ha
            subst ha
            refine MixH.take 4 35 _ (undef) rfl (by kernel_rfl) (by kernel_rfl) (by kernel_rfl) (by kernel_rfl) (.inr ⟨rfl, rfl⟩) hS (fun a' ha => ?_)
            simp only [Act.put, List.setIfInBounds_toArray, List.set_cons_succ, List.set_cons_zero] at ha
            subst ha
            refine MixH.take 3 36 _ (undef) rfl (by kernel_rfl) (by kernel_rfl) (by kernel_rfl) (by kernel_rfl) (.inr ⟨rfl, rfl⟩) hS (fun a' ha => ?_)
            simp only [Act.put, List.setIfInBounds_toArray, List.set_cons_succ, List.set_cons_zero] at ha
            subst ha
            refine MixH.takes [false, false, false, false, false, false, false, false, false, false, false, false, false, false, false, false, false, false, false, false, false, false, false, false, false, false, false, false, false, false, false, false, false, false, false, false, false, true, true, true] 0 (by kernel_rfl) (by kernel_rfl) (by decide) (by kernel_rfl) hS (fun K hK => ?_)
            simp only [Mix.pick]
            repeat (go_big_quiet_step (fail))
            refine wpQuiet_nil (hK _ ?_)
            clear hK K
            refine MixH.done (by kernel_rfl) ?_
            clear hS
            go_wp2
            go_meet
            exact ⟨i, rfl, by have := HLT.out; omega, ⟨by have := HLT.out; have := HN.out.1; omega, HNO.out, fun f hf => by rw [HEE.out] at hf; cases hf; exact HL3.out⟩, HE0.out.1, HE0.out.2⟩
      · have hni : ¬ ((i : Int) < (n : Int)) := by omega
        have HIN : Hid (i = n) := by have h : i = n := by omega
                                     exact h
        go_upto_region 2 with fail
        refine MixH.start (fun A => RenAt A B r ∧ True) (by kernel_rfl) ?_
        obtain ⟨wA, hwA⟩ : ∃ wA, wA = wr.drew := ⟨_, rfl⟩
        have bdr : Below wr.heap.size wr wA := by rw [hwA]; exact (Below.refl _ _).drew
        have HE0 : Hid (RenAt wA B r ∧ Below w.heap.size w wA) := ⟨HQ.out.1.below bdr, bthen HQ.out.2 bdr⟩
        have hS : RenAt wA B r ∧ True := ⟨HE0.out.1, trivial⟩
        rw [← hwA]
        clear hwA bdr HQ
        refine MixH.takes [true, true, true, true, true] 35 (by kernel_rfl) (by kernel_rfl) (by decide) (by kernel_rfl) hS (fun K hK => ?_)
        simp only [Mix.pick]
        repeat (go_big_quiet_step (fail))
        refine wpQuiet_nil (hK _ ?_)
        clear hK K
        refine MixH.take 34 5 _ (undef) rfl (by kernel_rfl) (by kernel_rfl) (by kernel_rfl) (by kernel_rfl) (.inr ⟨rfl, rfl⟩) hS (fun a' ha => ?_)
        simp only [Act.put, List.setIfInBounds_toArray, List.set_cons_succ, List.set_cons_zero] at ha
        subst ha
        refine MixH.take 33 6 _ (undef) rfl (by kernel_rfl) (by kernel_rfl) (by kernel_rfl) (by kernel_rfl) (.inr ⟨rfl, rfl⟩) hS (fun a' ha => ?_)
        simp only [Act.put, List.setIfInBounds_toArray, List.set_cons_succ, List.set_cons_zero] at ha
        subst ha
        refine MixH.take 32 7 _ (undef) rfl (by kernel_rfl) (by kernel_rfl) (by kernel_rfl) (by kernel_rfl) (.inr ⟨rfl, rfl⟩) hS (fun a' ha => ?_)
        simp only [Act.put, List.setIfInBounds_toArray, List.set_cons_succ, List.set_cons_zero] at ha
        subst ha
        refine MixH.take 31 8 _ (undef) rfl (by kernel_rfl) (by kernel_rfl) (by kernel_rfl) (by kernel_rfl) (.inr ⟨rfl, rfl⟩) hS (fun a' ha => ?_)
        simp only [Act.put, List.setIfInBounds_toArray, List.set_cons_succ, List.set_cons_zero] at ha
        subst ha
        refine MixH.take 30 9 _ (undef) rfl (by kernel_rfl) (by kernel_rfl) (by kernel_rfl) (by kernel_rfl) (.inr ⟨rfl, rfl⟩) hS (fun a' ha => ?_)
        simp only [Act.put, List.setIfInBounds_toArray, List.set_cons_succ, List.set_cons_zero] at ha
        subst ha
        refine MixH.take 29 10 _ (undef) rfl (by kernel_rfl) (by kernel_rfl) (by kernel_rfl) (by kernel_rfl) (.inr ⟨rfl, rfl⟩) hS (fun a' ha => ?_)
        simp only [Act.put, List.setIfInBounds_toArray, List.set_cons_succ, List.set_cons_zero] at ha
        subst ha
        refine MixH.take 28 11 _ (undef) rfl (by kernel_rfl) (by kernel_rfl) (by kernel_rfl) (by kernel_rfl) (.inr ⟨rfl, rfl⟩) hS (fun a' ha => ?_)
        simp only [Act.put, List.setIfInBounds_toArray, List.set_cons_succ, List.set_cons_zero] at ha
        subst ha
        refine MixH.take 27 12 _ (undef) rfl (by kernel_rfl) (by kernel_rfl) (by kernel_rfl) (by kernel_rfl) (.inr ⟨rfl, rfl⟩) hS (fun a' ha => ?_)
        simp only [Act.put, List.setIfInBounds_toArray, List.set_cons_succ, List.set_cons_zero] at ha
        subst ha
        refine MixH.take 26 13 _ (undef) rfl (by kernel_rfl) (by kernel_rfl) (by kernel_rfl) (by kernel_rfl) (.inr ⟨rfl, rfl⟩) hS (fun a' ha => ?_)
        simp only [Act.put, List.setIfInBounds_toArray, List.set_cons_succ, List.set_cons_zero] at ha
        subst ha
        refine MixH.take 25 14 _ (undef) rfl (by kernel_rfl) (by kernel_rfl) (by kernel_rfl) (by kernel_rfl) (.inr ⟨rfl, rfl⟩) hS (fun a' ha => ?_)
        simp only [Act.put, List.setIfInBounds_toArray, List.set_cons_succ, List.set_cons_zero] at ha
        subst ha
        refine MixH.take 24 15 _ (undef) rfl (by kernel_rfl) (by kernel_rfl) (by kernel_rfl) (by kernel_rfl) (.inr ⟨rfl, rfl⟩) hS (fun a' ha => ?_)
        simp only [Act.put, List.setIfInBounds_toArray, List.set_cons_succ, List.set_cons_zero] at ha
        subst ha
        refine MixH.take 23 16 _ (undef) rfl (by kernel_rfl) (by kernel_rfl) (by kernel_rfl) (by kernel_rfl) (.inr ⟨rfl, rfl⟩) hS (fun a' ha => ?_)
        simp only [Act.put, List.setIfInBounds_toArray, List.set_cons_succ, List.set_cons_zero] at ha
        subst ha
        refine MixH.take 22 17 _ (undef) rfl (by kernel_rfl) (by kernel_rfl) (by kernel_rfl) (by kernel_rfl) (.inr ⟨rfl, rfl⟩) hS (fun a' ha => ?_)
        simp only [Act.put, List.setIfInBounds_toArray, List.set_cons_succ, List.set_cons_zero] at ha
        subst ha
        refine MixH.take 21 18 _ (undef) rfl (by kernel_rfl) (by kernel_rfl) (by kernel_rfl) (by kernel_rfl) (.inr ⟨rfl, rfl⟩) hS (fun a' ha => ?_)
        simp only [Act.put, List.setIfInBounds_toArray, List.set_cons_succ, List.set_cons_zero] at ha
        subst ha
        refine MixH.take 20 19 _ (undef) rfl (by kernel_rfl) (by kernel_rfl) (by kernel_rfl) (by kernel_rfl) (.inr ⟨rfl, rfl⟩) hS (fun a' ha => ?_)
        simp only [Act.put, List.setIfInBounds_toArray, List.set_cons_succ, List.set_cons_zero] at ha
        subst ha
        refine MixH.take 19 20 _ (undef) rfl (by kernel_rfl) (by kernel_rfl) (by kernel_rfl) (by kernel_rfl) (.inr ⟨rfl, rfl⟩) hS (fun a' ha => ?_)
        simp only [Act.put, List.setIfInBounds_toArray, List.set_cons_succ, List.set_cons_zero] at ha
        subst ha
        refine MixH.take 18 21 _ (undef) rfl (by kernel_rfl) (by kernel_rfl) (by kernel_rfl) (by kernel_rfl) (.inr ⟨rfl, rfl⟩) hS (fun a' ha => ?_)
        simp only [Act.put, List.setIfInBounds_toArray, List.set_cons_succ, List.set_cons_zero] at ha
        subst ha
        refine MixH.take 17 22 _ (undef) rfl (by kernel_rfl) (by kernel_rfl) (by kernel_rfl) (by kernel_rfl) (.inr ⟨rfl, rfl⟩) hS (fun a' ha => ?_)
        simp only [Act.put, List.setIfInBounds_toArray, List.set_cons_succ, List.set_cons_zero] at ha
        subst ha
        refine MixH.take 16 23 _ (undef) rfl (by kernel_rfl) (by kernel_rfl) (by kernel_rfl) (by kernel_rfl) (.inr ⟨rfl, rfl⟩) hS (fun a' ha => ?_)
        simp only [Act.put, List.setIfInBounds_toArray, List.set_cons_succ, List.set_cons_zero] at ha
        subst ha
        refine MixH.take 15 24 _ (undef) rfl (by kernel_rfl) (by kernel_rfl) (by kernel_rfl) (by kernel_rfl) (.inr ⟨rfl, rfl⟩) hS (fun a' ha => ?_)
        simp only [Act.put, List.setIfInBounds_toArray, List.set_cons_succ, List.set_cons_zero] at ha
        subst ha
        refine MixH.take 14 25 _ (undef) rfl (by kernel_rfl) (by kernel_rfl) (by kernel_rfl) (by kernel_rfl) (.inr ⟨rfl, rfl⟩) hS (fun a' ha => ?_)
        simp only [Act.put, List.setIfInBounds_toArray, List.set_cons_succ, List.set_cons_zero] at ha
        subst ha
        refine MixH.take 13 26 _ (undef) rfl (by kernel_rfl) (by kernel_rfl) (by kernel_rfl) (by kernel_rfl) (.inr ⟨rfl, rfl⟩) hS (fun a' ha => ?_)
        simp only [Act.put, List.setIfInBounds_toArray, List.set_cons_succ, List.set_cons_zero] at ha
        subst ha
        refine MixH.take 12 27 _ (undef) rfl (by kernel_rfl) (by kernel_rfl) (by kernel_rfl) (by kernel_rfl) (.inr ⟨rfl, rfl⟩) hS (fun a' ha => ?_)
        simp only [Act.put, List.setIfInBounds_toArray, List.set_cons_succ, List.set_cons_zero] at ha
        subst ha
        refine MixH.take 11 28 _ (undef) rfl (by kernel_rfl) (by kernel_rfl) (by kernel_rfl) (by kernel_rfl) (.inr ⟨rfl, rfl⟩) hS (fun a' ha => ?_)
        simp only [Act.put, List.setIfInBounds_toArray, List.set_cons_succ, List.set_cons_zero] at ha
        subst ha
        refine MixH.take 10 29 _ (undef) rfl (by kernel_rfl) (by kernel_rfl) (by kernel_rfl) (by kernel_rfl) (.inr ⟨rfl, rfl⟩) hS (fun a' ha => ?_)
        simp only [Act.put, List.setIfInBounds_toArray, List.set_cons_succ, List.set_cons_zero] at ha
        subst ha
        refine MixH.take 9 30 _ (undef) rfl (by kernel_rfl) (by kernel_rfl) (by kernel_rfl) (by kernel_rfl) (.inr ⟨rfl, rfl⟩) hS (fun a' ha => ?_)
        simp only [Act.put, List.setIfInBounds_toArray, List.set_cons_succ, List.set_cons_zero] at ha
        subst ha
        refine MixH.take 8 31 _ (undef) rfl (by kernel_rfl) (by kernel_rfl) (by kernel_rfl) (by kernel_rfl) (.inr ⟨rfl, rfl⟩) hS (fun a' ha => ?_)
        simp only [Act.put, List.setIfInBounds_toArray, List.set_cons_succ, List.set_cons_zero] at ha
        subst ha
        refine MixH.take 7 32 _ (undef) rfl (by kernel_rfl) (by kernel_rfl) (by kernel_rfl) (by kernel_rfl) (.inr ⟨rfl, rfl⟩) hS (fun a' ha => ?_)
        simp only [Act.put, List.setIfInBounds_toArray, List.set_cons_succ, List.set_cons_zero] at ha
        subst ha
        refine MixH.take 6 33 _ (undef) rfl (by kernel_rfl) (by kernel_rfl) (by kernel_rfl) (by kernel_rfl) (.inr ⟨rfl, rfl⟩) hS (fun a' ha => ?_)
        simp only [Act.put, List.setIfInBounds_toArray, List.set_cons_succ, List.set_cons_zero] at ha
        subst ha
        refine MixH.take 5 34 _ (undef) rfl (by kernel_rfl) (by kernel_rfl) (by kernel_rfl) (by kernel_rfl) (.inr ⟨rfl, rfl⟩) hS (fun a' ha => ?_)
        simp only [Act.put, List.setIfInBounds_toArray, List.set_cons_succ, List.set_cons_zero] at ha
        subst ha
        refine MixH.take 4 35 _ (undef) rfl (by kernel_rfl) (by kernel_rfl) (by kernel_rfl) (by kernel_rfl) (.inr ⟨rfl, rfl⟩) hS (fun a' ha => ?_)
        simp only [Act.put, List.setIfInBounds_toArray, List.set_cons_succ, List.set_cons_zero] at ha
        subst ha
        refine MixH.take 3 36 _ (undef) rfl (by kernel_rfl) (by kernel_rfl) (by kernel_rfl) (by kernel_rfl) (.inr ⟨rfl, rfl⟩) hS (fun a' ha => ?_)
        simp only [Act.put, List.setIfInBounds_toArray, List.set_cons_succ, List.set_cons_zero] at ha
        subst ha
        refine MixH.take 2 37 _ (undef) rfl (by kernel_rfl) (by kernel_rfl) (by kernel_rfl) (by kernel_rfl) (.inr ⟨rfl, rfl⟩) hS (fun a' ha => ?_)
        simp only [Act.put, List.setIfInBounds_toArray, List.set_cons_succ, List.set_cons_zero] at ha
        subst ha
        refine MixH.take 1 38 _ (undef) rfl (by kernel_rfl) (by kernel_rfl) (by kernel_rfl) (by kernel_rfl) (.inr ⟨rfl, rfl⟩) hS (fun a' ha => ?_)
        simp only [Act.put, List.setIfInBounds_toArray, List.set_cons_succ, List.set_cons_zero] at ha
        subst ha
        refine MixH.takes [false, false, false, false, false, false, false, false, false, false, false, false, false, false, false, false, false, false, false, false, false, false, false, false, false, false, false, false, false, false, false, false, false, false, false, false, false, false, false, true] 0 (by kernel_rfl) (by kernel_rfl) (by decide) (by kernel_rfl) hS (fun K hK => ?_)
        simp only [Mix.pick]
        repeat (go_big_quiet_step (fail))
        refine wpQuiet_nil (hK _ ?_)
        clear hK K
        refine MixH.done (by kernel_rfl) ?_
        clear hS
        go_wp2
        go_meet
        exact ⟨i, rfl, by have := HIN.out; omega, ⟨by have := HIN.out; have := HN.out.1; omega, HNO.out, fun f hf => by have h1 := (List.getElem?_eq_some_iff.1 hf).1; have := HIN.out; have := HN.out.1; omega⟩, HE0.out.1, HE0.out.2⟩
  case rest =>
    obtain ⟨p, rfl, hp, HP⟩ := hcut
    clear HBX
    have k0 : (0 : Int) ≤ (p : Int) := by omega
    have k2 : ((p : Int)).toNat = p := by omega
    have HPN : Hid (p ≤ n) := hp
    have HTK : Hid ((R.take p).length = p) := by show _ = _; have := HN.out; rw [List.length_take]; omega
    have HDR : Hid ((R.drop p).length = n - p) := by show _ = _; have := HN.out; rw [List.length_drop]; omega
    rcases HN.out.2.2.2.2 with ⟨hla, hlc0⟩ | ⟨g, off, hla⟩
    · subst hla
      subst hlc0
      have hR0 : R = [] := by
        rcases HER.out with h | ⟨b, o, h, _⟩
        · exact h
        · cases h
      have hn0 : n = 0 := by have := HN.out; omega
      have hp0 : p = 0 := by omega
      subst hn0
      subst hp0
      have HD0 : Hid (R = []) := hR0
      clear hR0
      go_wp2_with (first | (refine wpList_load_ren (.tmp 3) rfl B r rfl HP.out.2.1 rfl ?_) | (refine wpList_bs1e (.tmp 55) rfl r rfl rfl ?_) | (refine wpList_app1e rfl (.tmp 54) (.tmp 56) rfl w.heap.size (.slice none 0 0) [] rfl (EL.nil _ _) wc.heap.size r rfl (ren_new wc r) (by simp) (by have := HP.out.2.2.size; simp; omega) ?_))
      intro v2 w2 h2 g2 _
      have bz : Below wc.heap.size wc (wc.alloc (.cells (reC r) 163)) := (Below.refl _ _).alloc (Nat.le_refl _) _
      have H2 : Hid (EL w2 w.heap.size v2 [r] ∧ Below w.heap.size w w2) := ⟨h2, (bthen HP.out.2.2 bz).trans (grown_below g2 (fun g hg => by cases hg) (bthen HP.out.2.2 bz).size)⟩
      clear h2 g2 bz
      go_wp2_with (first | (refine wpList_app_er rfl (.tmp 58) (.tmp 61) rfl w.heap.size v2 [r] rfl H2.out.1 none 0 0 [] rfl rfl (.inl rfl) (by simp) (by omega) H2.out.2.size ?_))
      intro v3 w3 h3 g3 _
      have HE : Hid (EL w3 w.heap.size v3 ([r] ++ []) ∧ Below w.heap.size w w3) := ⟨h3, H2.out.2.trans (grown_below g3 (fun g hg => (H2.out.1.cells g hg).1) H2.out.2.size)⟩
      clear h3 g3 H2
      go_wp2_with fail
      go_ret
      refine ⟨v3, 0, rfl, HP.out.1, ?_, HE.out.2⟩
      have h := HE.out.1
      rw [HD0.out]
      exact h
    · subst hla
      have k3 : p ≤ lc := by have := HN.out; omega
      have k4 : (p : Int) ≤ (lc : Int) := by omega
      have k5 : (p : Int) ≤ (n : Int) := by omega
      have hcc : n ≤ lc := HN.out.2.2.1
      have hcd : lc ≤ 9223372036854775807 := HN.out.2.2.2.1
      go_wp2_with (first | (refine wpList_app_er rfl (.tmp 49) (.tmp 52) rfl w.heap.size (.slice none 0 0) [] rfl (EL.nil _ _) (some ⟨g, off, none⟩) p lc (R.take p) rfl HTK.out ((HER.out.below HP.out.2.2).take p) (by simp) (by have := HN.out; have := HPN.out; omega) HP.out.2.2.size ?_))
      intro v1 w1 h1 g1 _
      have b1 : Below wc.heap.size wc w1 := grown_below g1 (fun g hg => by cases hg) (Nat.le_refl _)
      have bz : Below w1.heap.size w1 (w1.alloc (.cells (reC r) 163)) := (Below.refl _ _).alloc (Nat.le_refl _) _
      have H1 : Hid (EL (w1.alloc (.cells (reC r) 163)) w.heap.size v1 (R.take p) ∧ RenAt w1 B r ∧ Below w.heap.size w w1 ∧ Below w.heap.size w (w1.alloc (.cells (reC r) 163))) := ⟨EL.below h1 bz, HP.out.2.1.below b1, bthen HP.out.2.2 b1, bthen (bthen HP.out.2.2 b1) bz⟩
      clear h1 g1 b1 bz
      go_wp2_with (first | (refine wpList_load_ren (.tmp 3) rfl B r rfl H1.out.2.1 rfl ?_) | (refine wpList_bs1e (.tmp 55) rfl r rfl rfl ?_) | (refine wpList_app1e rfl (.tmp 54) (.tmp 56) rfl w.heap.size v1 (R.take p) rfl H1.out.1 w1.heap.size r rfl (ren_new w1 r) (by have := HN.out; rw [List.length_take]; omega) H1.out.2.2.2.size ?_))
      intro v2 w2 h2 g2 _
      have H2 : Hid (EL w2 w.heap.size v2 (R.take p ++ [r]) ∧ Below w.heap.size w w2) := ⟨h2, H1.out.2.2.2.trans (grown_below g2 (fun g hg => (H1.out.1.cells g hg).1) H1.out.2.2.2.size)⟩
      clear h2 g2 H1
      by_cases hlc : lc = p
      · have HD : Hid (R.drop p = []) := List.drop_of_length_le (by have := HN.out; have := HPN.out; omega)
        go_wp2_with (first | (refine wpList_app_er rfl (.tmp 58) (.tmp 61) rfl w.heap.size v2 (R.take p ++ [r]) rfl H2.out.1 (some ⟨g, off, none⟩) (n - p) 0 (R.drop p) rfl HDR.out (.inl HD.out) (by have := HN.out; have := HPN.out; rw [List.length_append, List.length_take]; simp; omega) (by have := HN.out; omega) H2.out.2.size ?_))
        intro v3 w3 h3 g3 _
        have HE : Hid (EL w3 w.heap.size v3 (R.take p ++ r :: R.drop p) ∧ Below w.heap.size w w3) := ⟨h3, H2.out.2.trans (grown_below g3 (fun g hg => (H2.out.1.cells g hg).1) H2.out.2.size)⟩
        clear h3 g3 H2
        go_wp2_with fail
        go_ret
        exact ⟨v3, p, rfl, HP.out.1, HE.out.1, HE.out.2⟩
      · have hlc2 : ¬ lc - p = 0 := by have := HN.out; have := HPN.out; omega
        go_wp2_with (first | (refine wpList_app_er rfl (.tmp 58) (.tmp 61) rfl w.heap.size v2 (R.take p ++ [r]) rfl H2.out.1 (some ⟨g, off + p * 29, none⟩) (n - p) (lc - p) (R.drop p) rfl HDR.out ((HER.out.below H2.out.2).drop p) (by have := HN.out; have := HPN.out; rw [List.length_append, List.length_take]; simp; omega) (by have := HN.out; omega) H2.out.2.size ?_))
        intro v3 w3 h3 g3 _
        have HE : Hid (EL w3 w.heap.size v3 (R.take p ++ r :: R.drop p) ∧ Below w.heap.size w w3) := ⟨h3, H2.out.2.trans (grown_below g3 (fun g hg => (H2.out.1.cells g hg).1) H2.out.2.size)⟩
        clear h3 g3 H2
        go_wp2_with fail
        go_ret
        exact ⟨v3, p, rfl, HP.out.1, HE.out.1, HE.out.2⟩
end Go.Proofs.Ytialefdojeddjaa
