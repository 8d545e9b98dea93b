/-
  Package hole: what changes a datagram, cell by cell; reach, endAt, Total, Whole.
-/
import Derived.Test.YtcoaghcmbhogjaaHRef2
import Derived.Test.YtcoaghcmbhogjaaHZero
namespace Go.Proofs.Ytcoaghcmbhogjaa
open Go.RowKit Go.Maps
namespace H11

theorem cell_ne (w : World) (gb j i : Nat) (v : Value) (h : i ≠ j) : (w.setCell ⟨gb, j, none⟩ v).cell? ⟨gb, i, none⟩ = w.cell? ⟨gb, i, none⟩ := World.cell?_setCell_other _ _ _ _ (by simp only [ne_eq, Addr.mk.injEq, true_and, and_true]; omega)

/-- what a call leaves of a datagram -/
def Moved (w : World) (H : Nat) (v : HV) (w' : World) (s' : HS) : Prop := ∃ v', HAt w' H s' v' ∧ (∀ x, HB H v' x → HB H v x ∨ w.heap.size ≤ x) ∧ Ch (HB H v) w w'
theorem Moved.start {w : World} {H : Nat} {s : HS} {v : HV} (h : HAt w H s v) : Moved w H v w s := ⟨v, h, fun _ hx => .inl hx, Ch.refl _ _⟩
theorem Moved.then {w w1 w2 : World} {H : Nat} {v v1 : HV} {s2 : HS} (k : ∀ x, HB H v1 x → HB H v x ∨ w.heap.size ≤ x) (c : Ch (HB H v) w w1) (m : Moved w1 H v1 w2 s2) : Moved w H v w2 s2 := by
  obtain ⟨v2, h2, k2, c2⟩ := m
  refine ⟨v2, h2, ?_, c.trans c2 ?_⟩
  · intro x hx
    rcases k2 x hx with h | h
    · exact k x h
    · exact .inr (Nat.le_trans c.size h)
  · intro x hlt hx
    rcases k x hx with h | h
    · exact h
    · omega

/-- the bytes' row is another: w1 behind an append or a copy, then the store -/
theorem HAt.setB {w w1 : World} {H : Nat} {s : HS} {v : HV} (h : HAt w H s v) (c : Ch (fun q => v.bv.ownBlock = some q) w w1) (bv : Value) (bs : List Nat) (ho : w1.ownsRow 0 5 1 bv bs.length ((toI bs).map (Value.int .u8)))
    (hn : ∀ q, bv.ownBlock = some q → v.bv.ownBlock = some q ∨ w.heap.size ≤ q) : Moved w H v (w1.setCell ⟨H, 2, none⟩ bv) { s with bs := bs } := by
  have hlt := h.lt
  have kH : ¬ v.bv.ownBlock = some H := h.nbH
  have k2 : Ch (fun q => q = H) w1 (w1.setCell ⟨H, 2, none⟩ bv) := (Ch.refl _ w1).set _ _ rfl
  have nH : bv.ownBlock ≠ some H := by
    intro e
    rcases hn H e with k | k
    · exact kH k
    · have := hlt H (.inl rfl); omega
  have hM : v.M < w.heap.size := hlt _ (.inr (.inl rfl))
  have cH : ∀ {j : Nat} {u : Value}, w.cell? ⟨H, j, none⟩ = some u → j ≠ 2 → (w1.setCell ⟨H, 2, none⟩ bv).cell? ⟨H, j, none⟩ = some u := by
    intro j u hu hj
    rw [cell_ne _ _ _ _ _ hj]
    exact c.cell hu kH
  refine ⟨{ v with bv := bv }, ⟨cH h.c0 (by omega), cH h.c1 (by omega), World.cell?_setCell_same _ _ _ (c.cell h.c2 kH), cH h.c3 (by omega), cH h.c4 (by omega), ?_, ?_, ?_, ?_, h.hs, h.nHM, nH, ?_, h.ngH, h.ngM, ?_⟩, ?_, ?_⟩
  · intro j
    rw [World.frozen?_setCell]
    exact (c.frozen (p := ⟨H, j, none⟩) (hlt H (.inl rfl)) kH).trans (h.fz j)
  · exact k2.owns ho (fun g hg e => nH (by rw [← e]; exact hg))
  · refine k2.owns (c.owns h.go (fun g hg e => h.nbg g e hg)) (fun g hg e => h.ngH (by rw [← e]; exact hg))
  · exact map_ch (map_ch h.mo c (fun e => h.nbM e)) k2 (fun e => h.nHM e.symm)
  · intro e
    rcases hn _ e with k | k
    · exact h.nbM k
    · simp only at k; omega
  · intro x hx hg
    rcases hn _ hx with k | k
    · exact h.nbg x k hg
    · have := hlt x (.inr (.inr (.inr hg))); omega
  · rintro x (rfl | rfl | hx | hx)
    · exact .inl (.inl rfl)
    · exact .inl (.inr (.inl rfl))
    · rcases hn x hx with k | k
      · exact .inl (.inr (.inr (.inl k)))
      · exact .inr k
    · exact .inl (.inr (.inr (.inr hx)))
  · exact (c.mono (fun x _ e => .inr (.inr (.inl e)))).trans k2 (fun x _ e => .inl e)
/-- the holes' row is another -/
theorem HAt.setG {w w1 : World} {H : Nat} {s : HS} {v : HV} (h : HAt w H s v) (c : Ch (fun _ => False) w w1) (gv : Value) (gp : List (Nat × Nat)) (ho : w1.ownsRow 0 45 2 gv gp.length (gC gp))
    (hn : ∀ q, gv.ownBlock = some q → v.gv.ownBlock = some q ∨ w.heap.size ≤ q) : Moved w H v (w1.setCell ⟨H, 3, none⟩ gv) { s with gp := gp } := by
  have hlt := h.lt
  have h1 := h.ch c (fun _ _ => id)
  have k2 : Ch (fun q => q = H) w1 (w1.setCell ⟨H, 3, none⟩ gv) := (Ch.refl _ w1).set _ _ rfl
  have nH : gv.ownBlock ≠ some H := by
    intro e
    rcases hn H e with k | k
    · exact h.ngH k
    · have := hlt H (.inl rfl); omega
  have hM : v.M < w.heap.size := hlt _ (.inr (.inl rfl))
  have cH : ∀ {j : Nat} {u : Value}, w1.cell? ⟨H, j, none⟩ = some u → j ≠ 3 → (w1.setCell ⟨H, 3, none⟩ gv).cell? ⟨H, j, none⟩ = some u := by
    intro j u hu hj
    rw [cell_ne _ _ _ _ _ hj]
    exact hu
  refine ⟨{ v with gv := gv }, ⟨cH h1.c0 (by omega), cH h1.c1 (by omega), cH h1.c2 (by omega), World.cell?_setCell_same _ _ _ h1.c3, cH h1.c4 (by omega), ?_, ?_, ?_, ?_, h.hs, h.nHM, h.nbH, h.nbM, nH, ?_, ?_⟩, ?_, ?_⟩
  · intro j
    rw [World.frozen?_setCell]
    exact h1.fz j
  · exact k2.owns h1.bo (fun g hg e => h.nbH (by rw [← e]; exact hg))
  · exact k2.owns ho (fun g hg e => nH (by rw [← e]; exact hg))
  · exact map_ch h1.mo k2 (fun e => h.nHM e.symm)
  · intro e
    rcases hn _ e with k | k
    · exact h.ngM k
    · simp only at k; omega
  · intro x hx hg
    rcases hn _ hg with k | k
    · exact h.nbg x hx k
    · have := hlt x (.inr (.inr (.inl hx))); omega
  · rintro x (rfl | rfl | hx | hx)
    · exact .inl (.inl rfl)
    · exact .inl (.inr (.inl rfl))
    · exact .inl (.inr (.inr (.inl hx)))
    · rcases hn x hx with k | k
      · exact .inl (.inr (.inr (.inr k)))
      · exact .inr k
  · exact (c.mono (fun x _ e => e.elim)).trans k2 (fun x _ e => .inl e)
/-- the end is known -/
theorem HAt.setE {w : World} {H : Nat} {s : HS} {v : HV} (h : HAt w H s v) (en : Nat) : HAt (w.setCell ⟨H, 1, none⟩ (.int .i64 (en : Int))) H { s with en := en } v ∧ Ch (HB H v) w (w.setCell ⟨H, 1, none⟩ (.int .i64 (en : Int))) := by
  have k2 : Ch (fun q => q = H) w (w.setCell ⟨H, 1, none⟩ (.int .i64 (en : Int))) := (Ch.refl _ w).set _ _ rfl
  have cH : ∀ {j : Nat} {u : Value}, w.cell? ⟨H, j, none⟩ = some u → j ≠ 1 → (w.setCell ⟨H, 1, none⟩ (.int .i64 (en : Int))).cell? ⟨H, j, none⟩ = some u := by
    intro j u hu hj
    rw [cell_ne _ _ _ _ _ hj]
    exact hu
  refine ⟨⟨cH h.c0 (by omega), World.cell?_setCell_same _ _ _ h.c1, cH h.c2 (by omega), cH h.c3 (by omega), cH h.c4 (by omega), ?_, ?_, ?_, ?_, h.hs, h.nHM, h.nbH, h.nbM, h.ngH, h.ngM, h.nbg⟩, k2.mono (fun x _ e => .inl e)⟩
  · intro j
    rw [World.frozen?_setCell]
    exact h.fz j
  · exact k2.owns h.bo (fun g hg e => h.nbH (by rw [← e]; exact hg))
  · exact k2.owns h.go (fun g hg e => h.ngH (by rw [← e]; exact hg))
  · exact map_ch h.mo k2 (fun e => h.nHM e.symm)

set_option maxRecDepth 100000 in
set_option maxHeartbeats 1600000 in
theorem reach_any (w : World) (H : Nat) (s : HS) (v : HV) (h : HAt w H s v) (e : Nat) (he : e ≤ 65535) (hl : s.bs.length ≤ 65535) :
    Calls Try.prog 32 #[.pointer (some ⟨H, 0, none⟩), .int .i64 (e : Int)] w fun r w' => r = .returned (.tuple #[]) ∧ Moved w H v w' { s with bs := rB s.bs e } := by
  obtain ⟨i0, hi, hz0, hz1, hz2⟩ := info_parts Try.infoByte
  obtain ⟨ba, bc, hbv⟩ := owns_shape h.bo
  obtain ⟨L, hL⟩ : ∃ L, L = s.bs.length := ⟨_, rfl⟩
  have hbo := h.bo
  rw [← hL] at hbv hl
  have c2 := h.c2
  have hf := h.fz 2
  have HH : Hid _ := h
  have HLL : Hid (L = s.bs.length) := hL
  have wr : IntKind.i64.wrap ((e : Int) - (L : Int)) = (e : Int) - (L : Int) := by rw [IntKind.wrap_i64]; omega
  rw [hbv] at c2
  have HBV : Hid (v.bv = .slice ba L bc) := hbv
  rw [← hL, hbv] at hbo
  by_cases hx : L < e
  · obtain ⟨m, hm⟩ : ∃ m, e = L + m := ⟨e - L, by omega⟩
    have hm0 : 0 < m := by omega
    have hlim : L + m ≤ 1000000 := by omega
    have d1 : (e : Int) - (L : Int) = (m : Int) := by omega
    have d2 : (0 : Int) < (m : Int) := by omega
    have HM : Hid (e = L + m) := hm
    rw [d1] at wr
    clear hm hx hl he hL h hbv
    go_enter Try.func32, Try.ntmps32
    go_wp2_with (first | (at_builtin; refine append_zeros rfl (.tmp 18) (.tmp 19) 22 3 rfl 5 i0 .i64 Try.underlying22 Try.underlying3 hi hz0 hz1 hz2 (.slice ba L bc) L _ rfl hbo m ?c1 hm0 hlim ?_))
    case c1 => first | rfl | (simp [d1])
    intro v' w1 ho1 hn1 hg1
    obtain ⟨va, vc, rfl⟩ := owns_shape ho1
    have kc : Ch (fun q => v.bv.ownBlock = some q) w w1 := by rw [HBV.out]; exact Ch.ofGrown hg1
    have c2' := kc.cell c2 HH.out.nbH
    have hf' : w1.frozen? ⟨H, 2, none⟩ = false := (kc.frozen (p := ⟨H, 2, none⟩) (HH.out.lt H (.inl rfl)) HH.out.nbH).trans hf
    have HF : Hid (Moved w H v (w1.setCell ⟨H, 2, none⟩ (.slice va (L + m) vc)) { s with bs := rB s.bs e }) := by
      refine HH.out.setB kc _ (rB s.bs e) ?_ (by rw [HBV.out]; exact hn1)
      rw [toI_zeros] at ho1
      have e1 : s.bs ++ List.replicate m 0 = rB s.bs e := by unfold rB; rw [HM.out, ← HLL.out]; congr 2; omega
      have e2 : L + m = (rB s.bs e).length := by rw [rB_len, ← HLL.out, HM.out]; omega
      rw [e1] at ho1
      rw [← e2]
      exact ho1
    clear ho1 hn1 hg1 kc hbo
    go_wp2
    go_end0
    exact ⟨rfl, HF.out⟩
  · have d2 : ¬ (0 : Int) < (e : Int) - (L : Int) := by omega
    have e1 : rB s.bs e = s.bs := by unfold rB; rw [show e - s.bs.length = 0 by omega]; simp
    have HF : Hid (Moved w H v w { s with bs := rB s.bs e }) := by
      show Moved _ _ _ _ _
      rw [e1]; exact Moved.start HH.out
    clear hx hl he hL h hbv e1 hbo
    go_enter Try.func32, Try.ntmps32
    go_wp2
    go_end0
    exact ⟨rfl, HF.out⟩

set_option maxRecDepth 100000 in
set_option maxHeartbeats 1600000 in
theorem total_any (w : World) (H : Nat) (s : HS) (v : HV) (h : HAt w H s v) :
    Calls Try.prog 18 #[.pointer (some ⟨H, 0, none⟩)] w fun r w' => r = .returned (.tuple #[.int .i64 (s.en : Int), .bool (decide (0 < s.en))]) ∧ Below w.heap.size w w' := by
  have c1 := h.c1
  have HH : Hid _ := h
  have e1 : decide ((0 : Int) < (s.en : Int)) = decide (0 < s.en) := by congr 1; exact propext (by omega)
  clear h
  go_enter Try.func18, Try.ntmps18
  go_upto_region 1 with fail
  refine MixH.start (fun A => HAt A H s v) (by kernel_rfl) ?_
  obtain ⟨wA, hwA⟩ : ∃ wA, wA = w.drew := ⟨_, rfl⟩
  have hS : HAt wA H s v := by rw [hwA]; exact HH.out.ch (Ch.refl (fun _ => False) _).drew (fun _ _ => id)
  have hb : Below w.heap.size w wA := by rw [hwA]; exact drew_below (Below.refl _ _)
  rw [← hwA]
  clear hwA HH
  refine MixH.takes [true, true, true] 8 (by kernel_rfl) (by kernel_rfl) (by decide) (by kernel_rfl) hS (fun K hK => ?_)
  simp only [Mix.pick]
  repeat (go_big_quiet_step (fail))
  refine wpQuiet_nil (hK _ ?_)
  clear hK K
  refine MixH.take 7 3 _ (.int .i64 (s.en : Int)) rfl (by kernel_rfl) (by kernel_rfl) (by kernel_rfl) (by kernel_rfl) (yields_int (.tmp 6) rfl ⟨H, 1, none⟩ _ rfl rfl (fun A hA => hA.c1)) hS (fun a' ha => ?_)
  simp only [Act.put, List.setIfInBounds_toArray, List.set_cons_succ, List.set_cons_zero] at ha
  subst ha
  refine MixH.takes [false, false, false, false, true, true, true] 4 (by kernel_rfl) (by kernel_rfl) (by decide) (by kernel_rfl) hS (fun K hK => ?_)
  simp only [Mix.pick]
  repeat (go_big_quiet_step (fail))
  refine wpQuiet_nil (hK _ ?_)
  clear hK K
  refine MixH.take 3 7 _ (.int .i64 (s.en : Int)) rfl (by kernel_rfl) (by kernel_rfl) (by kernel_rfl) (by kernel_rfl) (yields_int (.tmp 10) rfl ⟨H, 1, none⟩ _ rfl rfl (fun A hA => hA.c1)) hS (fun a' ha => ?_)
  simp only [Act.put, List.setIfInBounds_toArray, List.set_cons_succ, List.set_cons_zero] at ha
  subst ha
  refine MixH.takes [false, false, false, false, false, false, false, false, true, true, true] 0 (by kernel_rfl) (by kernel_rfl) (by decide) (by kernel_rfl) hS (fun K hK => ?_)
  simp only [Mix.pick]
  repeat (go_big_quiet_step (fail))
  refine wpQuiet_nil (hK _ ?_)
  clear hK K
  refine MixH.done (by kernel_rfl) ?_
  go_wp2
  go_ret2
  refine ⟨?_, hb⟩
  first | rfl | (simp [e1])

set_option maxRecDepth 100000 in
set_option maxHeartbeats 1600000 in
theorem whole_any (w : World) (H : Nat) (s : HS) (v : HV) (h : HAt w H s v) :
    Calls Try.prog 15 #[.pointer (some ⟨H, 0, none⟩)] w fun r w' => r = .returned (.bool (decide (0 < s.en ∧ s.gp = []))) ∧ w = w' := by
  have c1 := h.c1
  have c3 := h.c3
  obtain ⟨ga, gc, hgv⟩ := owns_shape h.go
  obtain ⟨G, hG⟩ : ∃ G, G = s.gp.length := ⟨_, rfl⟩
  rw [hgv, ← hG] at c3
  by_cases h1 : 0 < s.en
  · have d1 : (0 : Int) < (s.en : Int) := by omega
    by_cases h2 : G = 0
    · have hd : decide (0 < s.en ∧ s.gp = []) = true := decide_eq_true ⟨h1, List.eq_nil_of_length_eq_zero (by omega)⟩
      have d2 : ((G : Int) == 0) = true := by rw [beq_iff_eq]; omega
      have HD : Hid _ := hd
      clear h h1 h2 hgv hG hd
      go_enter Try.func15, Try.ntmps15
      go_wp2
      go_ret
      exact ⟨by first | (rw [HD.out]; rfl) | rfl, rfl⟩
    · have hd : decide (0 < s.en ∧ s.gp = []) = false := decide_eq_false (fun k => h2 (by rw [hG, k.2]; rfl))
      have d2 : ((G : Int) == 0) = false := by rw [beq_eq_false_iff_ne]; omega
      have HD : Hid _ := hd
      clear h h1 h2 hgv hG hd
      go_enter Try.func15, Try.ntmps15
      go_wp2
      go_ret
      exact ⟨by first | (rw [HD.out]; rfl) | rfl, rfl⟩
  · have d1 : ¬ (0 : Int) < (s.en : Int) := by omega
    have hd : decide (0 < s.en ∧ s.gp = []) = false := decide_eq_false (fun k => h1 k.1)
    have HD : Hid _ := hd
    clear h h1 hgv hG hd
    go_enter Try.func15, Try.ntmps15
    go_wp2
    go_ret
    exact ⟨by first | (rw [HD.out]; rfl) | rfl, rfl⟩

end H11
end Go.Proofs.Ytcoaghcmbhogjaa
