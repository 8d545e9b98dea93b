/-
  Layer 15's reference: address, find.
-/
import Derived.Test.YtialefdojeddjaaNrFn1
namespace Go.Proofs.Ytialefdojeddjaa
open Go.RowKit Go.Maps

theorem ipB_4 {x : Nat → Nat} : ipB 4 x = true ↔ ∀ j, 4 ≤ j → j < 16 → x j = 0 := by
  unfold ipB
  rw [show ((4 : Int) == 6) = false from rfl, show ((4 : Int) == 4) = true from rfl, Bool.false_or, Bool.true_and, same16_iff]
  unfold hd4
  constructor
  · intro h j h4 h16
    have := h j h16
    rw [if_neg (by omega)] at this
    exact this
  · intro h j h16
    split
    · rfl
    · exact h j (by omega) h16
set_option maxHeartbeats 3200000 in
set_option maxRecDepth 100000 in
theorem raddr_any (V : Int) (x : Nat → Nat) (w : World) : Calls Try.prog 92 #[.agg (ipCells V x)] w fun e w' => e = .returned (.bool (ipB V x)) ∧ Below w.heap.size w w' := by
  have hb := ipr_new w V x
  have bel : Below w.heap.size w (w.alloc (.cells (ipCells V x) 31)) := (Below.refl _ _).alloc (Nat.le_refl _) _
  obtain ⟨CX, hC⟩ : ∃ C, C = ipCells V x := ⟨_, rfl⟩
  obtain ⟨W, hW⟩ : ∃ W, W = w.alloc (.cells (ipCells V x) 31) := ⟨_, rfl⟩
  rw [← hW] at hb bel
  obtain ⟨B, hB⟩ : ∃ B, B = w.heap.size := ⟨_, rfl⟩
  rw [← hB] at hb
  have HBX : Hid (IprAt W B V x) := hb
  rw [← hC] at hW ⊢
  have HOX : Hid (w.heap.size = B) := hB.symm
  have HLX : Hid (Below w.heap.size w W) := bel
  have HWX : Hid (w.alloc (.cells CX 31) = W) := hW.symm
  clear hb hW hB hC bel
  obtain ⟨bb, hbb⟩ : ∃ bb, bb = ipB V x := ⟨_, rfl⟩
  rw [← hbb]
  have HBB : Hid (bb = ipB V x) := hbb
  clear hbb
  have c0 : W.cell? ⟨B, 0, none⟩ = some (.int .i64 V) := HBX.out.cell 0
  go_enter Try.func92, Try.ntmps92
  go_upto_region 1 with fail
  rw [HOX.out, HWX.out]
  by_cases h4 : V = 4
  · have q4 : (V == 4) = true := by simpa using h4
    have HV : Hid (V = 4) := h4
    clear h4
    go_wp2_with fail
    go_loopw [3] (fun ix wr => ∃ i : Nat, ix = .int .i64 i ∧ i ≤ 16 ∧ 4 ≤ i ∧ Hid (wr = W ∧ ∀ j, 4 ≤ j → j < i → x j = 0)) (fun ix _ => 16 - (intOf ix).toNat)
    case atStart => exact ⟨4, rfl, by omega, by omega, rfl, fun j h1 h2 => by omega⟩
    case round =>
      obtain ⟨i, rfl, hi, hi4, HR⟩ := hrel
      obtain rfl := HR.out.1
      by_cases hlt : i < 16
      · have k1 : (i : Int) < 16 := by omega
        have k0 : (0 : Int) ≤ (i : Int) := by omega
        have k2 : ((i : Int)).toNat = i := by omega
        have wi : IntKind.i64.wrap ((i : Int) + 1) = (i : Int) + 1 := by rw [IntKind.wrap_i64]; omega
        obtain ⟨u, hu⟩ : ∃ u, u = x i := ⟨_, rfl⟩
        have cu : wr.cell? ⟨B, 1 + i, none⟩ = some (.int .u8 (u : Nat)) := by rw [hu]; exact HBX.out.boxed.2 i hlt
        have HU : Hid (u = x i ∧ i < 16 ∧ 4 ≤ i) := ⟨hu, hlt, hi4⟩
        clear hu hi hi4
        by_cases hu0 : u = 0
        · have q5 : ((u : Int) != 0) = false := by simpa using hu0
          have HU0 : Hid (u = 0) := hu0
          clear hu0
          go_wp2_with fail
          go_roundw
          case rel => exact ⟨i + 1, by first | rfl | go_num, by have := HU.out.2.1; omega, by have := HU.out.2.2; omega, (by first | rfl | trivial), fun j h1 h2 => by
            by_cases h : j = i
            · rw [h, ← HU.out.1, HU0.out]
            · exact HR.out.2 j h1 (by omega)⟩
          case measure => have := HU.out.2.1; simp [intOf]; omega
        · have q5 : ((u : Int) != 0) = true := by rw [bne_iff_ne]; omega
          have HU0 : Hid (u ≠ 0) := hu0
          clear hu0
          go_wp2_with fail
          go_ret
          refine ⟨?_, HLX.out⟩
          have : bb = false := by
            rw [HBB.out, HV.out, Bool.eq_false_iff]
            intro h
            exact HU0.out (by rw [HU.out.1]; exact ipB_4.1 h i HU.out.2.2 HU.out.2.1)
          rw [this]
          rfl
      · have hni : ¬ ((i : Int) < 16) := by omega
        have HA : Hid (∀ j, 4 ≤ j → j < 16 → x j = 0) := fun j h1 h2 => HR.out.2 j h1 (by omega)
        go_wp2_with fail
        go_ret
        refine ⟨?_, HLX.out⟩
        have : bb = true := by rw [HBB.out, HV.out]; exact ipB_4.2 HA.out
        rw [this]
        rfl
  · have q4 : (V == 4) = false := by simpa using h4
    have hbb2 : (V == 6) = bb := by rw [HBB.out]; unfold ipB; rw [q4]; simp
    clear h4
    go_wp2_with fail
    go_loopw [3] (fun ix wr => ∃ i : Nat, ix = .int .i64 i ∧ i ≤ 16 ∧ Hid (wr = W)) (fun ix _ => 16 - (intOf ix).toNat)
    case atStart => exact ⟨4, rfl, by omega, rfl⟩
    case round =>
      obtain ⟨i, rfl, hi, HR⟩ := hrel
      obtain rfl := HR.out
      by_cases hlt : i < 16
      · have k1 : (i : Int) < 16 := by omega
        have wi : IntKind.i64.wrap ((i : Int) + 1) = (i : Int) + 1 := by rw [IntKind.wrap_i64]; omega
        have HU : Hid (i < 16) := hlt
        clear hi
        go_wp2_with fail
        go_roundw
        case rel => exact ⟨i + 1, by first | rfl | go_num, by have := HU.out; omega, (by first | rfl | trivial)⟩
        case measure => have := HU.out; simp [intOf]; omega
      · have hni : ¬ ((i : Int) < 16) := by omega
        go_wp2_with fail
        go_ret
        exact ⟨rfl, HLX.out⟩
theorem yields_ents {ops : Array Oper} {o : Oper} {a : Act} {S : World → Prop} (x : Operand) (ho : o.op = .load 85 x) (p : Addr) (u : Value) (hx : a.eval x = .pointer (some p)) (hw : Region.wanted o (yielded ops a.tmps) = true) (hS : ∀ w, S w → w.cell? p = some u) : YieldsIf Try.prog ops S o u a := by
  refine .inl ⟨hw, fun w hb => ?_⟩
  have hc := hS w hb
  have hu := Try.underlying85
  obtain ⟨dst, op, type, pos, after, guard⟩ := o
  simp only at ho
  subst ho
  simp only [execOp, Sem.run_bind, Sem.run_pure]
  rw [hx]
  simp [Instr.loadAt, go_sem, hc]
theorem yields_eql_ip {ops : Array Oper} {o : Oper} {a : Act} {S : World → Prop} (X Y : Operand) (ho : o.op = .binOp .eql 31 X Y 31) (V U : Int) (x y : Nat → Nat) (hx : a.eval X = .agg (ipCells V x)) (hy : a.eval Y = .agg (ipCells U y)) (b : Bool) (hb : (V == U && same16 x y) = b) (hw : Region.wanted o (yielded ops a.tmps) = true) : YieldsIf Try.prog ops S o (.bool b) a := by
  refine .inl ⟨hw, fun w _ => ?_⟩
  subst hb
  obtain ⟨dst, op, type, pos, after, guard⟩ := o
  simp only at ho
  subst ho
  simp only [execOp, Sem.run_bind, Sem.run_pure, hx, hy, run_eqGuard_agg w .eql 31 _ _ _ _ Try.ipGuard, Result.andThen_ok, run_eql_struct, eqIPtop]
theorem nb_ipR {A : World} {g o : Nat} {e : NB} (h : A.rangeAt g o (nbC e).toList) : A.rangeAt g (o + 1) (ipCells e.k.V e.k.x).toList := by
  intro i v hi
  have hl : i < 17 := (List.getElem?_eq_some_iff.1 hi).1
  have h2 : (nbC e).toList[1 + i]? = some v := by
    have := lt20' (show i < 20 by omega)
    rcases this with rfl | rfl | rfl | rfl | rfl | rfl | rfl | rfl | rfl | rfl | rfl | rfl | rfl | rfl | rfl | rfl | rfl | rfl | rfl | rfl
    all_goals first | exact hi | omega
  have := h (1 + i) v h2
  rwa [← Nat.add_assoc] at this
theorem re_ip {A : World} {g o : Nat} {r : RE} (h : A.rangeAt g o (reC r).toList) : A.rangeAt g (o + 1) (ipCells r.n.k.V r.n.k.x).toList := nb_ipR (re_nb h)
/-- the place of the entry of k, from the i-th on -/
def fdI : List RE → KV → Nat → Int
  | [], _, _ => -1
  | r :: R, k, i => if eqP r.n.k k then (i : Int) else fdI R k (i + 1)
theorem fdI_skip : ∀ (R : List RE) (k : KV) (i m : Nat), i ≤ R.length → (∀ j r, j < i → R[j]? = some r → eqP r.n.k k = false) → fdI R k m = fdI (R.drop i) k (m + i)
  | R, _, 0, m, _, _ => by simp
  | [], _, i + 1, m, h, _ => by simp at h
  | r :: R, k, i + 1, m, h, hn => by
    have h0 := hn 0 r (by omega) rfl
    rw [List.drop_succ_cons, fdI, if_neg (by rw [h0]; decide), fdI_skip R k i (m + 1) (by simpa using h) (fun j s hj hs => hn (j + 1) s (by omega) (by simpa using hs))]
    congr 1
    omega
theorem fdI_at {R : List RE} {k : KV} {i : Nat} {r : RE} (hr : R[i]? = some r) (hn : ∀ j r, j < i → R[j]? = some r → eqP r.n.k k = false) (he : eqP r.n.k k = true) : fdI R k 0 = i := by
  obtain ⟨hi, e⟩ := List.getElem?_eq_some_iff.1 hr
  rw [fdI_skip R k i 0 (by omega) hn, List.drop_eq_getElem_cons hi, fdI, e, if_pos he]
  simp
theorem fdI_none {R : List RE} {k : KV} (hn : ∀ j r, j < R.length → R[j]? = some r → eqP r.n.k k = false) : fdI R k 0 = -1 := by
  rw [fdI_skip R k R.length 0 (Nat.le_refl _) hn, List.drop_length]
  rfl
theorem IprAt.all {w : World} {O : Nat} {V : Int} {x : Nat → Nat} (h : IprAt w O V x) : w.rangeAt O 0 (ipCells V x).toList := by
  have e := IprAt.range h 0 (ipCells V x).size
  rwa [Nat.zero_add, Array.extract_size] at e
set_option maxHeartbeats 3200000 in
set_option maxRecDepth 100000 in
theorem rfind_any (rc : RC) (R : List RE) (pt V : Int) (x : Nat → Nat) (w : World) (hR : ER w rc.la R) (hn : R.length = rc.n) (hl : rc.n ≤ 100000) : Calls Try.prog 93 #[.agg (rcC rc), .int .i64 pt, .agg (ipCells V x)] w fun r w' => r = .returned (.int .i64 (fdI R ⟨pt, V, x⟩ 0)) ∧ Below w.heap.size w w' := by
  have hi := rch_new w rc
  have hi' := ipr_new (w.alloc (.cells (rcC rc) 87)) V x
  rw [World.size_alloc] at hi'
  obtain ⟨Y, hY⟩ : ∃ Y, Y = (w.alloc (.cells (rcC rc) 87)).alloc (.cells (ipCells V x) 31) := ⟨_, rfl⟩
  have bY : Below w.heap.size w Y := by rw [hY]; exact ((Below.refl _ _).alloc (Nat.le_refl _) _).alloc (by simp) _
  have hi2 : RchAt Y w.heap.size rc := by rw [hY]; exact hi.below ((Below.refl _ _).alloc (Nat.le_refl _) _)
  rw [← hY] at hi'
  obtain ⟨B, hB⟩ : ∃ B, B = w.heap.size := ⟨_, rfl⟩
  rw [← hB] at hi2 hi'
  obtain ⟨CI, hCI⟩ : ∃ C, C = rcC rc := ⟨_, rfl⟩
  obtain ⟨CM, hCM⟩ : ∃ C, C = ipCells V x := ⟨_, rfl⟩
  obtain ⟨n, hnn⟩ : ∃ n, n = rc.n := ⟨_, rfl⟩
  have HN : Hid (R.length = n ∧ n ≤ 100000 ∧ n = rc.n) := ⟨by omega, by omega, hnn⟩
  have HER : Hid (ER w rc.la R) := hR
  rw [← hCI, ← hCM] at hY ⊢
  have HQ0 : Hid (RchAt Y B rc ∧ IprAt Y (B + 1) V x ∧ Below w.heap.size w Y) := ⟨hi2, hi', bY⟩
  have HW : Hid ((w.alloc (.cells CI 87)).alloc (.cells CM 31) = Y ∧ w.heap.size = B) := ⟨hY.symm, hB.symm⟩
  obtain ⟨fd, hfd⟩ : ∃ fd, fd = fdI R ⟨pt, V, x⟩ 0 := ⟨_, rfl⟩
  rw [← hfd]
  have HFD : Hid (fd = fdI R ⟨pt, V, x⟩ 0) := hfd
  clear hi hi' hY bY hi2 hB hCI hCM hR hn hl hnn hfd
  go_enter Try.func93, Try.ntmps93
  go_upto_region 1 with fail
  rw [HW.out.1, HW.out.2]
  go_wp2_with fail
  go_loopw [7] (fun ix wr => ∃ i : Nat, ix = .int .i64 i ∧ i ≤ n ∧ Hid (RchAt wr B rc ∧ IprAt wr (B + 1) V x ∧ Below w.heap.size w wr) ∧ Hid (∀ j r, j < i → R[j]? = some r → eqP r.n.k ⟨pt, V, x⟩ = false)) (fun ix _ => n - (intOf ix).toNat)
  case atStart => exact ⟨0, rfl, by omega, HQ0, fun j r h => by omega⟩
  case round =>
    obtain ⟨i, rfl, hi, HQ, HNO⟩ := hrel
    clear HQ0
    have csl : wr.cell? ⟨B, 5, none⟩ = some (.slice rc.la n rc.lc) := by rw [HQ.out.1.cell 5, HN.out.2.2]; rfl
    by_cases hlt : i < n
    · have k0 : (0 : Int) ≤ (i : Int) := by omega
      have k1 : (i : Int) < (n : Int) := by omega
      have k2 : ((i : Int)).toNat = i := by omega
      have wi : IntKind.i64.wrap ((i : Int) + 1) = (i : Int) + 1 := by have := HN.out.2.1; rw [IntKind.wrap_i64]; omega
      obtain ⟨e, he⟩ : ∃ e, R[i]? = some e := ⟨_, List.getElem?_eq_getElem (by rw [HN.out.1]; exact hlt)⟩
      obtain ⟨g, off, hla, _, hrg⟩ := (HER.out.below HQ.out.2.2).at i e he
      rw [hla] at csl
      have HRG : Hid (wr.rangeAt g (off + i * 29) (reC e).toList) := hrg
      have HLT : Hid (i < n) := hlt
      have HEE : Hid (R[i]? = some e) := he
      have HSL : Hid (∀ A, (RchAt A B rc ∧ IprAt A (B + 1) V x ∧ A.rangeAt g (off + i * 29) (reC e).toList) → A.cell? ⟨B, 5, none⟩ = some (.slice (some ⟨g, off, none⟩) n rc.lc)) := fun A hA => by rw [hA.1.cell 5, ← hla, HN.out.2.2]; rfl
      clear he hla hrg hi
      obtain ⟨b2, hb2⟩ : ∃ b2, (e.n.k.V == V && same16 e.n.k.x x) = b2 := ⟨_, rfl⟩
      have HB2 : Hid ((e.n.k.V == V && same16 e.n.k.x x) = b2) := hb2
      clear hb2
      by_cases hp : e.n.k.pt = pt
      · have q1 : (e.n.k.pt == pt) = true := by simpa using hp
        have HEQ : Hid (eqP e.n.k ⟨pt, V, x⟩ = b2) := by
          show _ = _
          unfold eqP
          rw [show (e.n.k.pt == pt) = true from q1, Bool.true_and]
          exact HB2.out
        clear hp
        go_upto_region 4 with fail
        refine MixH.start (fun A => RchAt A B rc ∧ IprAt A (B + 1) V x ∧ A.rangeAt g (off + i * 29) (reC e).toList) (by kernel_rfl) ?_
        obtain ⟨wA, hwA⟩ : ∃ wA, wA = wr.drew := ⟨_, rfl⟩
        have bdr : Below wr.heap.size wr wA := by rw [hwA]; exact (Below.refl _ _).drew
        have hS : RchAt wA B rc ∧ IprAt wA (B + 1) V x ∧ wA.rangeAt g (off + i * 29) (reC e).toList := ⟨HQ.out.1.below bdr, HQ.out.2.1.below bdr, by rw [hwA]; exact HRG.out⟩
        have HE : Hid (RchAt wA B rc ∧ IprAt wA (B + 1) V x ∧ Below w.heap.size w wA) := ⟨hS.1, hS.2.1, bthen HQ.out.2.2 bdr⟩
        rw [← hwA]
        clear hwA bdr HQ HRG
        refine MixH.takes [true] 19 (by kernel_rfl) (by kernel_rfl) (by decide) (by kernel_rfl) hS (fun K hK => ?_)
        simp only [Mix.pick]
        repeat (go_big_quiet_step (fail))
        refine wpQuiet_nil (hK _ ?_)
        clear hK K
        refine MixH.take 18 1 _ (.slice (some ⟨g, off, none⟩) n rc.lc) rfl (by kernel_rfl) (by kernel_rfl) (by kernel_rfl) (by kernel_rfl) (yields_ents (.tmp 15) rfl ⟨B, 5, none⟩ (.slice (some ⟨g, off, none⟩) n rc.lc) rfl rfl HSL.out) hS (fun a' ha => ?_)
        simp only [Act.put, List.setIfInBounds_toArray, List.set_cons_succ, List.set_cons_zero] at ha
        subst ha
        refine MixH.takes [false, false, true, true, true, true] 14 (by kernel_rfl) (by kernel_rfl) (by decide) (by kernel_rfl) hS (fun K hK => ?_)
        simp only [Mix.pick]
        repeat (go_big_quiet_step (fail))
        refine wpQuiet_nil (hK _ ?_)
        clear hK K
        refine MixH.take 13 6 _ (.int .i64 e.n.k.pt) rfl (by kernel_rfl) (by kernel_rfl) (by kernel_rfl) (by kernel_rfl) (yields_int (.tmp 20) rfl ⟨g, off + i * 29, none⟩ (.int .i64 e.n.k.pt) rfl rfl (fun A hA => hA.2.2 0 _ rfl)) hS (fun a' ha => ?_)
        simp only [Act.put, List.setIfInBounds_toArray, List.set_cons_succ, List.set_cons_zero] at ha
        subst ha
        refine MixH.takes [false, false, false, false, false, false, false, true, true, true] 10 (by kernel_rfl) (by kernel_rfl) (by decide) (by kernel_rfl) hS (fun K hK => ?_)
        simp only [Mix.pick]
        repeat (go_big_quiet_step (fail))
        refine wpQuiet_nil (hK _ ?_)
        clear hK K
        refine MixH.takes [false, false, false, false, false, false, false, false, false, false, true] 9 (by kernel_rfl) (by kernel_rfl) (by decide) (by kernel_rfl) hS (fun K hK => ?_)
        simp only [Mix.pick]
        repeat (go_big_quiet_step (fail))
        refine wpQuiet_nil (hK _ ?_)
        clear hK K
        refine MixH.take 8 11 _ (.slice (some ⟨g, off, none⟩) n rc.lc) rfl (by kernel_rfl) (by kernel_rfl) (by kernel_rfl) (by kernel_rfl) (yields_ents (.tmp 25) rfl ⟨B, 5, none⟩ (.slice (some ⟨g, off, none⟩) n rc.lc) rfl rfl HSL.out) hS (fun a' ha => ?_)
        simp only [Act.put, List.setIfInBounds_toArray, List.set_cons_succ, List.set_cons_zero] at ha
        subst ha
        refine MixH.takes [false, false, false, false, false, false, false, false, false, false, false, false, true, true, true, true] 4 (by kernel_rfl) (by kernel_rfl) (by decide) (by kernel_rfl) hS (fun K hK => ?_)
        simp only [Mix.pick]
        repeat (go_big_quiet_step (fail))
        refine wpQuiet_nil (hK _ ?_)
        clear hK K
        refine MixH.take 3 16 _ (.agg (ipCells e.n.k.V e.n.k.x)) rfl (by kernel_rfl) (by kernel_rfl) (by kernel_rfl) (by kernel_rfl) (yields_ipr (.tmp 30) rfl g (off + i * 29 + 1) e.n.k.V e.n.k.x rfl rfl (fun A hA => re_ip hA.2.2)) hS (fun a' ha => ?_)
        simp only [Act.put, List.setIfInBounds_toArray, List.set_cons_succ, List.set_cons_zero] at ha
        subst ha
        refine MixH.take 2 17 _ (.agg (ipCells V x)) rfl (by kernel_rfl) (by kernel_rfl) (by kernel_rfl) (by kernel_rfl) (yields_ipr (.tmp 5) rfl (B + 1) 0 V x rfl rfl (fun A hA => hA.2.1.all)) hS (fun a' ha => ?_)
        simp only [Act.put, List.setIfInBounds_toArray, List.set_cons_succ, List.set_cons_zero] at ha
        subst ha
        refine MixH.take 1 18 _ (.bool b2) rfl (by kernel_rfl) (by kernel_rfl) (by kernel_rfl) (by kernel_rfl) (yields_eql_ip (.tmp 31) (.tmp 32) rfl e.n.k.V V e.n.k.x x rfl rfl b2 HB2.out rfl) hS (fun a' ha => ?_)
        simp only [Act.put, List.setIfInBounds_toArray, List.set_cons_succ, List.set_cons_zero] at ha
        subst ha
        refine MixH.takes [false, false, false, false, false, false, false, false, false, false, false, false, false, false, false, false, false, false, false, true] 0 (by kernel_rfl) (by kernel_rfl) (by decide) (by kernel_rfl) hS (fun K hK => ?_)
        simp only [Mix.pick]
        repeat (go_big_quiet_step (fail))
        refine wpQuiet_nil (hK _ ?_)
        clear hK K
        refine MixH.done (by kernel_rfl) ?_
        clear hS
        cases b2 with
        | true =>
          go_wp2
          go_ret
          refine ⟨?_, HE.out.2.2⟩
          rw [HFD.out, fdI_at HEE.out HNO.out HEQ.out]
          rfl
        | false =>
          go_wp2
          go_roundw
          case rel => exact ⟨i + 1, by first | rfl | go_num, by have := HLT.out; omega, HE, fun j r h1 h2 => by
            by_cases h : j = i
            · subst h
              rw [HEE.out] at h2
              cases h2
              exact HEQ.out
            · exact HNO.out j r (by omega) h2⟩
          case measure => have := HLT.out; simp [intOf]; omega
      · have q1 : (e.n.k.pt == pt) = false := by simpa using hp
        have HEQ : Hid (eqP e.n.k ⟨pt, V, x⟩ = false) := by
          show _ = _
          unfold eqP
          rw [show (e.n.k.pt == pt) = false from q1]
          rfl
        clear hp
        go_upto_region 4 with fail
        refine MixH.start (fun A => RchAt A B rc ∧ IprAt A (B + 1) V x ∧ A.rangeAt g (off + i * 29) (reC e).toList) (by kernel_rfl) ?_
        obtain ⟨wA, hwA⟩ : ∃ wA, wA = wr.drew := ⟨_, rfl⟩
        have bdr : Below wr.heap.size wr wA := by rw [hwA]; exact (Below.refl _ _).drew
        have hS : RchAt wA B rc ∧ IprAt wA (B + 1) V x ∧ wA.rangeAt g (off + i * 29) (reC e).toList := ⟨HQ.out.1.below bdr, HQ.out.2.1.below bdr, by rw [hwA]; exact HRG.out⟩
        have HE : Hid (RchAt wA B rc ∧ IprAt wA (B + 1) V x ∧ Below w.heap.size w wA) := ⟨hS.1, hS.2.1, bthen HQ.out.2.2 bdr⟩
        rw [← hwA]
        clear hwA bdr HQ HRG
        refine MixH.takes [true] 19 (by kernel_rfl) (by kernel_rfl) (by decide) (by kernel_rfl) hS (fun K hK => ?_)
        simp only [Mix.pick]
        repeat (go_big_quiet_step (fail))
        refine wpQuiet_nil (hK _ ?_)
        clear hK K
        refine MixH.take 18 1 _ (.slice (some ⟨g, off, none⟩) n rc.lc) rfl (by kernel_rfl) (by kernel_rfl) (by kernel_rfl) (by kernel_rfl) (yields_ents (.tmp 15) rfl ⟨B, 5, none⟩ (.slice (some ⟨g, off, none⟩) n rc.lc) rfl rfl HSL.out) hS (fun a' ha => ?_)
        simp only [Act.put, List.setIfInBounds_toArray, List.set_cons_succ, List.set_cons_zero] at ha
        subst ha
        refine MixH.takes [false, false, true, true, true, true] 14 (by kernel_rfl) (by kernel_rfl) (by decide) (by kernel_rfl) hS (fun K hK => ?_)
        simp only [Mix.pick]
        repeat (go_big_quiet_step (fail))
        refine wpQuiet_nil (hK _ ?_)
        clear hK K
        refine MixH.take 13 6 _ (.int .i64 e.n.k.pt) rfl (by kernel_rfl) (by kernel_rfl) (by kernel_rfl) (by kernel_rfl) (yields_int (.tmp 20) rfl ⟨g, off + i * 29, none⟩ (.int .i64 e.n.k.pt) rfl rfl (fun A hA => hA.2.2 0 _ rfl)) hS (fun a' ha => ?_)
        simp only [Act.put, List.setIfInBounds_toArray, List.set_cons_succ, List.set_cons_zero] at ha
        subst ha
        refine MixH.takes [false, false, false, false, false, false, false, true, true, true] 10 (by kernel_rfl) (by kernel_rfl) (by decide) (by kernel_rfl) hS (fun K hK => ?_)
        simp only [Mix.pick]
        repeat (go_big_quiet_step (fail))
        refine wpQuiet_nil (hK _ ?_)
        clear hK K
        refine MixH.take 9 10 _ (undef) rfl (by kernel_rfl) (by kernel_rfl) (by kernel_rfl) (by kernel_rfl) (.inr ⟨rfl, rfl⟩) hS (fun a' ha => ?_)
        simp only [Act.put, List.setIfInBounds_toArray, List.set_cons_succ, List.set_cons_zero] at ha
        subst ha
        refine MixH.take 8 11 _ (undef) rfl (by kernel_rfl) (by kernel_rfl) (by kernel_rfl) (by kernel_rfl) (.inr ⟨rfl, rfl⟩) hS (fun a' ha => ?_)
        simp only [Act.put, List.setIfInBounds_toArray, List.set_cons_succ, List.set_cons_zero] at ha
        subst ha
        refine MixH.take 7 12 _ (undef) rfl (by kernel_rfl) (by kernel_rfl) (by kernel_rfl) (by kernel_rfl) (.inr ⟨rfl, rfl⟩) hS (fun a' ha => ?_)
        simp only [Act.put, List.setIfInBounds_toArray, List.set_cons_succ, List.set_cons_zero] at ha
        subst ha
        refine MixH.take 6 13 _ (undef) rfl (by kernel_rfl) (by kernel_rfl) (by kernel_rfl) (by kernel_rfl) (.inr ⟨rfl, rfl⟩) hS (fun a' ha => ?_)
        simp only [Act.put, List.setIfInBounds_toArray, List.set_cons_succ, List.set_cons_zero] at ha
        subst ha
        refine MixH.take 5 14 _ (undef) rfl (by kernel_rfl) (by kernel_rfl) (by kernel_rfl) (by kernel_rfl) (.inr ⟨rfl, rfl⟩) hS (fun a' ha => ?_)
        simp only [Act.put, List.setIfInBounds_toArray, List.set_cons_succ, List.set_cons_zero] at ha
        subst ha
        refine MixH.take 4 15 _ (undef) rfl (by kernel_rfl) (by kernel_rfl) (by kernel_rfl) (by kernel_rfl) (.inr ⟨rfl, rfl⟩) hS (fun a' ha => ?_)
        simp only [Act.put, List.setIfInBounds_toArray, List.set_cons_succ, List.set_cons_zero] at ha
        subst ha
        refine MixH.take 3 16 _ (undef) rfl (by kernel_rfl) (by kernel_rfl) (by kernel_rfl) (by kernel_rfl) (.inr ⟨rfl, rfl⟩) hS (fun a' ha => ?_)
        simp only [Act.put, List.setIfInBounds_toArray, List.set_cons_succ, List.set_cons_zero] at ha
        subst ha
        refine MixH.take 2 17 _ (undef) rfl (by kernel_rfl) (by kernel_rfl) (by kernel_rfl) (by kernel_rfl) (.inr ⟨rfl, rfl⟩) hS (fun a' ha => ?_)
        simp only [Act.put, List.setIfInBounds_toArray, List.set_cons_succ, List.set_cons_zero] at ha
        subst ha
        refine MixH.take 1 18 _ (undef) rfl (by kernel_rfl) (by kernel_rfl) (by kernel_rfl) (by kernel_rfl) (.inr ⟨rfl, rfl⟩) hS (fun a' ha => ?_)
        simp only [Act.put, List.setIfInBounds_toArray, List.set_cons_succ, List.set_cons_zero] at ha
        subst ha
        refine MixH.takes [false, false, false, false, false, false, false, false, false, false, false, false, false, false, false, false, false, false, false, true] 0 (by kernel_rfl) (by kernel_rfl) (by decide) (by kernel_rfl) hS (fun K hK => ?_)
        simp only [Mix.pick]
        repeat (go_big_quiet_step (fail))
        refine wpQuiet_nil (hK _ ?_)
        clear hK K
        refine MixH.done (by kernel_rfl) ?_
        clear hS
        go_wp2
        go_roundw
        case rel => exact ⟨i + 1, by first | rfl | go_num, by have := HLT.out; omega, HE, fun j r h1 h2 => by
          by_cases h : j = i
          · subst h
            rw [HEE.out] at h2
            cases h2
            exact HEQ.out
          · exact HNO.out j r (by omega) h2⟩
        case measure => have := HLT.out; simp [intOf]; omega
    · have hni : ¬ ((i : Int) < (n : Int)) := by omega
      have HNA : Hid (∀ j r, j < R.length → R[j]? = some r → eqP r.n.k ⟨pt, V, x⟩ = false) := fun j r h1 h2 => HNO.out j r (by have := HN.out.1; omega) h2
      go_wp2_with fail
      go_ret
      refine ⟨?_, HQ.out.2.2⟩
      rw [HFD.out, fdI_none HNA.out]
      rfl
end Go.Proofs.Ytialefdojeddjaa
