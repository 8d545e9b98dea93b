/-
  Layer 18: leave, fill.
-/
import Derived.Test.YtclkcpdghpaboaaQF3
namespace Go.Proofs.Ytclkcpdghpaboaa
open Go.RowKit

theorem mod_next (f k n : Nat) : ((f + 1) % n + k) % n = (f + (k + 1)) % n := by
  rw [Nat.mod_add_mod]; congr 1; omega
/-- the head has left, its slot is wiped -/
def left (m : CM) : CM := ⟨⟨m.c.li, m.c.L.tail, m.c.tk⟩, m.v, (m.f + 1) % m.S.length, m.S.set m.f iz, m.b⟩
theorem left_ok {w w' : World} {m : CM} {x : Int × Int} {L : List (Int × Int)} (h : LnOk w m) (hL : m.c.L = x :: L) (hg : GL 2 itL 119 w' 0 m.v (m.S.set m.f iz)) : LnOk w' (left m) := by
  have hq := h.ql
  rw [hL, List.length_cons] at hq
  have hf : m.f < m.S.length := h.fl.resolve_right (fun e => by omega)
  refine ⟨hg, .inl ?_, ?_, fun k hk => ?_, ?_, fun e => ?_⟩
  · show (m.f + 1) % m.S.length < (m.S.set _ _).length
    rw [List.length_set]; exact Nat.mod_lt _ (by omega)
  · show m.c.L.tail.length ≤ (m.S.set _ _).length
    rw [List.length_set, hL, List.tail_cons]; omega
  · show (m.S.set _ _)[((m.f + 1) % m.S.length + k) % (m.S.set _ _).length]? = m.c.L.tail[k]?
    have hk' : k < L.length := by have : k < m.c.L.tail.length := hk; rwa [hL, List.tail_cons] at this
    have h1 := mod_ne m.f 0 (k + 1) m.S.length hf (by omega) (by omega)
    rw [Nat.add_zero, Nat.mod_eq_of_lt hf] at h1
    rw [List.length_set, mod_next, List.getElem?_set_ne h1, h.at' (k + 1) (by rw [hL, List.length_cons]; omega), hL]
    rfl
  · show (m.S.set _ _).length ≤ _
    rw [List.length_set]; exact h.nb
  · have e' : (m.S.set _ _).length = 0 := e
    rw [List.length_set] at e'
    omega
section
variable (w : World) (P G : Nat) (ms : List CM) (t : TN) (h : QA w P G ms t) (i : Nat) (m : CM) (hi : ms[i]? = some m)
include h hi
set_option maxHeartbeats 1600000 in
set_option maxRecDepth 100000 in
theorem leaveL_any (x : Int × Int) (L : List (Int × Int)) (hL : m.c.L = x :: L) : Calls Try.prog 74 #[.pointer (some ⟨G, i * 10 + 5, none⟩)] w fun e w' => e = .returned (.agg (itA x)) ∧ QA w' P G (ms.set i (left m)) t ∧ Ch (fun q => q = G ∨ m.v.ownBlock = some q) w w' := by
  have HQ0 : Hid (QA w P G ms t ∧ ms[i]? = some m ∧ m.c.L = x :: L) := ⟨h, hi, hL⟩
  clear h hi hL
  obtain ⟨Y, hY⟩ : ∃ Y_, Y_ = w.alloc (.cells (itA iz) 119) := ⟨_, rfl⟩
  have bY : Below w.heap.size w Y := by rw [hY]; exact (Below.refl _ _).alloc (Nat.le_refl _) _
  obtain ⟨O, hO⟩ : ∃ O, O = w.heap.size := ⟨_, rfl⟩
  have HNY : Hid (ItmAt Y O iz) := by show ItmAt Y O iz; rw [hY, hO]; exact itm_new w iz
  have HLY : Hid (Below w.heap.size w Y) := bY
  have HEY : Hid (w.alloc (.cells #[.int .i64 0, .int .i64 0] 119) = Y) := hY.symm
  have HOY : Hid (w.heap.size = O) := hO.symm
  clear hY bY hO
  obtain ⟨Z, hY⟩ : ∃ Y_, Y_ = Y.alloc (.cells (itA iz) 119) := ⟨_, rfl⟩
  have bY : Below Y.heap.size Y Z := by rw [hY]; exact (Below.refl _ _).alloc (Nat.le_refl _) _
  obtain ⟨U, hO⟩ : ∃ O, O = Y.heap.size := ⟨_, rfl⟩
  have HNZ : Hid (ItmAt Z U iz) := by show ItmAt Z U iz; rw [hY, hO]; exact itm_new Y iz
  have HLZ : Hid (Below Y.heap.size Y Z) := bY
  have HEZ : Hid (Y.alloc (.cells #[.int .i64 0, .int .i64 0] 119) = Z) := hY.symm
  have HOZ : Hid (Y.heap.size = U) := hO.symm
  clear hY bY hO

  have HU : Hid (w.heap.size = O ∧ U = O + 1 ∧ Z.heap.size = U + 1) := by
    refine ⟨HOY.out, ?_, ?_⟩
    · rw [← HOZ.out, ← HEY.out, World.size_alloc, HOY.out]
    · rw [← HEZ.out, World.size_alloc, HOZ.out]
  have HQ : Hid (QA Z P G ms t ∧ Below w.heap.size w Z ∧ ItmAt Z O iz ∧ ItmAt Z U iz) := ⟨(HQ0.out.1.below HLY.out).below HLZ.out, bthen HLY.out HLZ.out, HNY.out.below HLZ.out, HNZ.out⟩
  have QH : Hid _ := head_any Z P G ms t HQ.out.1 i m HQ0.out.2.1 x L HQ0.out.2.2
  go_enter Try.func74, Try.ntmps74
  go_upto_region 1 with fail
  rw [HOY.out, HEY.out]
  go_upto_region 2 with fail
  rw [HOZ.out, HEZ.out]
  go_wp2_with fail
  refine Calls.mono QH.out ?_
  rintro e1 w1 ⟨rfl, b1⟩
  have HZ1 : Hid (QA w1 P G ms t ∧ Below w.heap.size w w1 ∧ ItmAt w1 O iz ∧ ItmAt w1 U iz ∧ Z.heap.size ≤ w1.heap.size) := ⟨HQ.out.1.below b1, bthen HQ.out.2.1 b1, HQ.out.2.2.1.below b1, HQ.out.2.2.2.below b1, b1.size⟩
  clear b1 QH
  obtain ⟨X, hY⟩ : ∃ Y_, Y_ = w1.alloc (.cells (itA iz) 119) := ⟨_, rfl⟩
  have bY : Below w1.heap.size w1 X := by rw [hY]; exact (Below.refl _ _).alloc (Nat.le_refl _) _
  obtain ⟨V, hO⟩ : ∃ O, O = w1.heap.size := ⟨_, rfl⟩
  have HNX : Hid (ItmAt X V iz) := by show ItmAt X V iz; rw [hY, hO]; exact itm_new w1 iz
  have HLX : Hid (Below w1.heap.size w1 X) := bY
  have HEX : Hid (w1.alloc (.cells #[.int .i64 0, .int .i64 0] 119) = X) := hY.symm
  have HOX : Hid (w1.heap.size = V) := hO.symm
  clear hY bY hO

  go_wp2_with (first | (refine wpList_store_itm (.tmp 4) (.tmp 6) rfl rfl w1.heap.size iz x rfl rfl (itm_new w1 iz) rfl ?_))
  intro w2 h2 k2
  have HV : Hid (w1.heap.size = V ∧ U < V ∧ O < U ∧ w.heap.size = O ∧ w1.heap.size ≤ w2.heap.size) := by
    have h5 := k2.size
    rw [HEX.out] at h5
    have h6 := HLX.out.size
    refine ⟨HOX.out, ?_, ?_, HU.out.1, by omega⟩
    · have := HZ1.out.2.2.2.2; have := HU.out.2.2; have := HOX.out; omega
    · have := HU.out.2.1; omega
  have HZ2 : Hid (QA w2 P G ms t ∧ Ch (fun _ => False) w w2 ∧ ItmAt w2 O iz ∧ ItmAt w2 U iz ∧ ItmAt w2 V x) := by
    have k3 : Ch (fun q => q = V) X w2 := by rw [← HOX.out, ← HEX.out]; exact k2
    have hVq : ∀ q, QB P G ms q → q ≠ V := fun q hq e => by have := HQ0.out.1.lt q hq; have := HV.out; omega
    refine ⟨(HZ1.out.1.below HLX.out).ch k3 hVq, ((Ch.ofBelow (S := fun q => q = V) (bthen HZ1.out.2.1 HLX.out)).trans k3 (fun _ _ e => e)).mono (fun q hq e => by have := HV.out; omega), (HZ1.out.2.2.1.below HLX.out).ch k3 (by have := HV.out; omega), (HZ1.out.2.2.2.1.below HLX.out).ch k3 (by have := HV.out; omega), by rw [← HOX.out]; exact h2⟩
  rw [HV.out.1]
  clear h2 k2 HZ1 HNX HLX HEX HOX
  have hlo := HZ2.out.1.ln m (List.mem_of_getElem? HQ0.out.2.1)
  obtain ⟨g, cap, hv, hf, hr, hS0⟩ := hlo.head HQ0.out.2.2
  clear hr
  have HLO : Hid (LnOk w2 m) := hlo
  obtain ⟨n, hn⟩ : ∃ n, n = m.S.length := ⟨_, rfl⟩
  obtain ⟨f, hfe⟩ : ∃ f, f = m.f := ⟨_, rfl⟩
  have hnb := hlo.nb
  rw [← hn] at hnb hv hf
  rw [← hfe] at hf
  obtain ⟨k, hk⟩ : ∃ k, k = (f + 1) % n := ⟨_, rfl⟩
  have HVV : Hid (m.v = .slice (some ⟨g, 0, none⟩) n cap ∧ m.f = f ∧ m.S.length = n ∧ k = (m.f + 1) % m.S.length) := ⟨hv, hfe.symm, hn.symm, by rw [← hn, ← hfe]; exact hk⟩
  have hkT : Int.tmod ((f : Int) + 1) (n : Int) = (k : Int) := by rw [Int.tmod_eq_emod_of_nonneg (by omega), hk]; simp
  have wA1 : IntKind.i64.wrap ((f : Int) + 1) = (f : Int) + 1 := i64_s _ (by omega) (by omega)
  have n0 : ((n : Int) == 0) = false := beq_eq_false_iff_ne.2 (by omega)
  have k0 : (0 : Int) ≤ (f : Int) := by omega
  have k1 : (f : Int) < (n : Int) := by omega
  have k2 : ((f : Int)).toNat = f := by omega
  have HOWN : Hid (GL 2 itL 119 w2 0 (.slice (some ⟨g, 0, none⟩) n cap) m.S) := by have h1 := hlo.own; rw [hv] at h1; exact h1
  have HFN : Hid (f < n) := hf
  have HGL : Hid (g < w.heap.size) := by
    have := HQ0.out.1.lt g (.inr (.inr ⟨m, List.mem_of_getElem? HQ0.out.2.1, by rw [hv]; rfl⟩))
    exact this
  clear hlo hn hfe hv hk hf hS0
  go_upto_region 3 with fail
  refine MixH.start (fun A => A.rangeAt G (i * 10) (cmL m) ∧ ItmAt A U iz) (by kernel_rfl) ?_
  obtain ⟨wB, hwA⟩ : ∃ W_, W_ = w2.drew := ⟨_, rfl⟩
  have bdr : Below w2.heap.size w2 wB := by rw [hwA]; exact (Below.refl _ _).drew
  have HB : Hid (QA wB P G ms t ∧ GL 2 itL 119 wB 0 (.slice (some ⟨g, 0, none⟩) n cap) m.S ∧ Ch (fun _ => False) w wB ∧ ItmAt wB O iz ∧ ItmAt wB V x ∧ w2.heap.size ≤ wB.heap.size ∧ LnOk wB m) := ⟨HZ2.out.1.below bdr, HOWN.out.below bdr, HZ2.out.2.1.trans (Ch.ofBelow (S := fun _ => False) bdr) (fun _ _ e => e), HZ2.out.2.2.1.below bdr, HZ2.out.2.2.2.2.below bdr, bdr.size, HLO.out.ch (Ch.ofBelow (S := fun _ => False) bdr) (fun _ _ => id)⟩
  have hS : wB.rangeAt G (i * 10) (cmL m) ∧ ItmAt wB U iz := ⟨HB.out.1.cells HQ0.out.2.1, HZ2.out.2.2.2.1.below bdr⟩
  rw [← hwA]
  clear hwA bdr
  refine MixH.takes [true, true, true, false, true, true, true] 5 (by kernel_rfl) (by kernel_rfl) (by decide) (by kernel_rfl) hS (fun K hK => ?_)
  simp only [Mix.pick]
  repeat (go_big_quiet_step (fail))
  refine wpQuiet_nil (hK _ ?_)
  clear hK K
  refine MixH.take 4 3 _ (.slice (some ⟨g, 0, none⟩) n cap) rfl (by kernel_rfl) (by kernel_rfl) (by kernel_rfl) (by kernel_rfl) (yields_its (.tmp 9) rfl ⟨G, i * 10 + 5, none⟩ (.slice (some ⟨g, 0, none⟩) n cap) rfl rfl (fun A hA => (hA.1 5 _ rfl).trans (by rw [HVV.out.1]))) hS (fun a' ha => ?_)
  simp only [Act.put, List.setIfInBounds_toArray, List.set_cons_succ, List.set_cons_zero] at ha
  subst ha
  refine MixH.take 3 7 _ (.int .i64 (f : Int)) rfl (by kernel_rfl) (by kernel_rfl) (by kernel_rfl) (by kernel_rfl) (yields_int (.tmp 13) rfl ⟨G, i * 10 + 6, none⟩ (.int .i64 (f : Int)) rfl rfl (fun A hA => (hA.1 6 _ rfl).trans (by rw [HVV.out.2.1]))) hS (fun a' ha => ?_)
  simp only [Act.put, List.setIfInBounds_toArray, List.set_cons_succ, List.set_cons_zero] at ha
  subst ha
  refine MixH.take 2 8 _ (.agg (itA iz)) rfl (by kernel_rfl) (by kernel_rfl) (by kernel_rfl) (by kernel_rfl) (yields_itm (.tmp 3) rfl U 0 iz rfl rfl (fun A hA => hA.2.all)) hS (fun a' ha => ?_)
  simp only [Act.put, List.setIfInBounds_toArray, List.set_cons_succ, List.set_cons_zero] at ha
  subst ha
  refine MixH.takes [false, false, false, false, false, false, false, false, false, true] 1 (by kernel_rfl) (by kernel_rfl) (by decide) (by kernel_rfl) hS (fun K hK => ?_)
  simp only [Mix.pick]
  repeat (go_big_quiet_step (fail))
  refine wpQuiet_nil (hK _ ?_)
  clear hK K
  refine MixH.one [false, false, false, false, false, false, false, false, false, false, true] 0 10 _ rfl rfl (by kernel_rfl) (by kernel_rfl) (fun K hK => ?_)
  simp only [Mix.pick]
  refine wpList_setG itL_len itL_one 119 info_it (.tmp 16) (.tmp 15) rfl rfl 0 g n cap m.S f (f * 2) iz rfl rfl rfl HB.out.2.1 HFN.out rfl ?_
  intro w5 gl5 k5
  have hgG : G ≠ g := fun e => (HB.out.1.pm (List.mem_of_getElem? HQ0.out.2.1)).2 (by rw [HVV.out.1]; exact congrArg some e.symm)
  have HG5 : Hid (w5.rangeAt G (i * 10) (cmL m) ∧ (∀ j, w5.frozen? ⟨G, j, none⟩ = false) ∧ GL 10 cmL 98 w5 0 (.slice (some ⟨G, 0, none⟩) ms.length ms.length) ms ∧ GL 2 itL 119 w5 0 (.slice (some ⟨g, 0, none⟩) n cap) (m.S.set f iz) ∧ Ch (fun q => q = g) w w5 ∧ G ≠ g ∧ ItmAt w5 O iz ∧ ItmAt w5 V x) := by
    have h8 := HGL.out
    have h9 := HV.out
    refine ⟨fun j v hj => k5.cell (hS.1 j v hj) hgG, fun j => (k5.frozen (p := ⟨G, j, none⟩) HB.out.1.gk.1 hgG).trans (HB.out.1.fzG j), HB.out.1.gl.ch k5 (fun q hq e => hgG (by simp only [Value.ownBlock, Option.some.injEq] at hq; rw [hq, e])), gl5, (HB.out.2.2.1.mono (fun _ _ e => e.elim)).trans k5 (fun _ _ e => e), hgG, HB.out.2.2.2.1.ch k5 (by omega), HB.out.2.2.2.2.1.ch k5 (by omega)⟩
  replace hS : w5.rangeAt G (i * 10) (cmL m) ∧ ItmAt w5 U iz := ⟨HG5.out.1, hS.2.ch k5 (by have h8 := HGL.out; have h9 := HV.out; omega)⟩
  clear gl5 k5 hgG
  refine ⟨rfl, hK _ _ hS ?_⟩
  clear hK K
  refine MixH.done (by kernel_rfl) ?_
  clear hS
  obtain ⟨l, hl⟩ : ∃ l, l = L.length := ⟨_, rfl⟩
  have HL : Hid (m.c.L.length = l + 1 ∧ m.c.L.tail = L ∧ L.length = l) := ⟨by rw [HQ0.out.2.2, List.length_cons, hl], by rw [HQ0.out.2.2]; rfl, hl.symm⟩
  have hlb : l ≤ 8190 := by have := HLO.out.ql; have := HLO.out.nb; have := HL.out.1; omega
  have wl : IntKind.i64.wrap (((l + 1 : Nat) : Int) - 1) = (l : Int) := by rw [i64_s _ (by omega) (by omega)]; omega
  have c5 := (HG5.out.1 5 _ rfl).trans (by rw [HVV.out.1])
  have c6 := (HG5.out.1 6 _ rfl).trans (by rw [HVV.out.2.1])
  have z6 := HG5.out.2.1 (i * 10 + 6)
  have z6' : w5.drew.frozen? ⟨G, i * 10 + 6, none⟩ = false := z6
  obtain ⟨w6, hw6⟩ : ∃ w6, w6 = (w5.setCell ⟨G, i * 10 + 6, none⟩ (.int .i64 (k : Int))).drew := ⟨_, rfl⟩
  have HW6 : Hid ((w5.setCell ⟨G, i * 10 + 6, none⟩ (.int .i64 (k : Int))).drew = w6) := hw6.symm
  have k6 : Ch (fun q => q = G) w5 w6 := by rw [hw6]; exact ((Ch.refl (fun q => q = G) w5).set ⟨G, i * 10 + 6, none⟩ _ rfl).drew
  have g6 : GL 10 cmL 98 w6 0 (.slice (some ⟨G, 0, none⟩) ms.length ms.length) (ms.set i ⟨m.c, m.v, k, m.S, m.b⟩) := by rw [hw6]; exact (gl_set HG5.out.2.2.1 i 6 (m' := ⟨m.c, m.v, k, m.S, m.b⟩) (.int .i64 (k : Int)) HQ0.out.2.1 (by decide) rfl).below (Below.refl _ _).drew
  have hi6 : (ms.set i ⟨m.c, m.v, k, m.S, m.b⟩)[i]? = some ⟨m.c, m.v, k, m.S, m.b⟩ := set_same (List.getElem?_eq_some_iff.1 HQ0.out.2.1).1
  have c7 : w6.cell? ⟨G, i * 10 + 7, none⟩ = some (.int .i64 ((l + 1 : Nat) : Int)) := (g6.range cmL_len i _ hi6 7 _ rfl).trans (by show some (Value.int .i64 ((m.c.L.length : Nat) : Int)) = _; rw [HL.out.1])
  have z7 : w6.frozen? ⟨G, i * 10 + 7, none⟩ = false := g6.frozen _
  have HF : Hid (∀ A, Ch (fun q => q = O) (w6.setCell ⟨G, i * 10 + 7, none⟩ (.int .i64 (l : Int))) A → QA A P G (ms.set i (left m)) t ∧ Ch (fun q => q = G ∨ m.v.ownBlock = some q) w A) := by
    intro A hA
    have k7 : Ch (fun q => q = G) w6 (w6.setCell ⟨G, i * 10 + 7, none⟩ (.int .i64 (l : Int))) := (Ch.refl (fun q => q = G) w6).set ⟨G, i * 10 + 7, none⟩ _ rfl
    have g7 := gl_set g6 i 7 (m' := left m) (.int .i64 (l : Int)) hi6 (by decide) (by
      unfold left cmL cmA
      simp only [HL.out.2.1, HL.out.2.2, HVV.out.2.2.2]
      rfl)
    rw [List.set_set] at g7
    have hO := HV.out
    have hgl := HGL.out
    have kO : ∀ q, q < w.heap.size → q ≠ O := fun q hq e => by omega
    have hGl := HQ0.out.1.gk.1
    have g8 := g7.ch hA (fun q hq e => kO q (by simp only [Value.ownBlock, Option.some.injEq] at hq; omega) e)
    have kw : Ch (fun q => q = G ∨ m.v.ownBlock = some q) w A := ((((HG5.out.2.2.2.2.1.mono (T := fun q => q = G ∨ m.v.ownBlock = some q) (fun q _ e => .inr (by rw [HVV.out.1]; exact congrArg some e.symm))).trans k6 (fun _ _ e => .inl e)).trans k7 (fun _ _ e => .inl e)).trans hA (fun q hq e => absurd e (kO q hq)))
    have o1 := ((HG5.out.2.2.2.1.ch k6 (fun q hq e => HG5.out.2.2.2.2.2.1 (by simp only [Value.ownBlock, Option.some.injEq] at hq; rw [hq, e]))).ch k7 (fun q hq e => HG5.out.2.2.2.2.2.1 (by simp only [Value.ownBlock, Option.some.injEq] at hq; rw [hq, e]))).ch hA (fun q hq e => kO q (by simp only [Value.ownBlock, Option.some.injEq] at hq; omega) e)
    refine ⟨HQ0.out.1.put HQ0.out.2.1 kw g8 (left_ok HLO.out HQ0.out.2.2 (by rw [HVV.out.2.1, HVV.out.1]; exact o1)) (fun q hq => .inl hq), kw⟩
  have HI7 : Hid (ItmAt (w6.setCell ⟨G, i * 10 + 7, none⟩ (.int .i64 (l : Int))) O iz ∧ ItmAt (w6.setCell ⟨G, i * 10 + 7, none⟩ (.int .i64 (l : Int))) V x) := by
    have k7 : Ch (fun q => q = G) w6 (w6.setCell ⟨G, i * 10 + 7, none⟩ (.int .i64 (l : Int))) := (Ch.refl (fun q => q = G) w6).set ⟨G, i * 10 + 7, none⟩ _ rfl
    have hO := HV.out
    have hGl := HQ0.out.1.gk.1
    exact ⟨(HG5.out.2.2.2.2.2.2.1.ch k6 (by omega)).ch k7 (by omega), (HG5.out.2.2.2.2.2.2.2.ch k6 (by omega)).ch k7 (by omega)⟩
  clear k6 g6 hi6 hw6 hl
  go_upto_region 4 with fail
  go_region
  rw [HW6.out]
  go_upto_region 6 with fail
  obtain ⟨w7, hw7⟩ : ∃ w7, w7 = w6.setCell ⟨G, i * 10 + 7, none⟩ (.int .i64 (l : Int)) := ⟨_, rfl⟩
  rw [← hw7] at HF HI7 ⊢
  clear hw7 c7 z7
  go_wp2_with (first | (refine wpList_load_itm (.tmp 4) rfl V x rfl HI7.out.2 rfl ?_) | (refine wpList_store_itm (.tmp 2) (.tmp 38) rfl rfl O iz x rfl rfl HI7.out.1 rfl ?_))
  intro w8 h8 k8
  have HZ8 : Hid (ItmAt w8 O x ∧ QA w8 P G (ms.set i (left m)) t ∧ Ch (fun q => q = G ∨ m.v.ownBlock = some q) w w8) := ⟨h8, HF.out w8 k8⟩
  clear h8 k8
  go_wp2_with fail
  refine bodyPost_ret (results_itm rfl _ _ O _ rfl HZ8.out.1) rfl ?_
  exact ⟨rfl, HZ8.out.2⟩
end
end Go.Proofs.Ytclkcpdghpaboaa
