/-
  The walk of ViewBuilders.
-/
import Derived.Test.YtcgfdhmegagjdaaActedB
import Derived.Test.YtcgfdhmegagjdaaOpenActs
namespace Go.Proofs.Ytcgfdhmegagjdaa.viewBuilders
open Go.RowKit

theorem acted_any (w0 w : World) (B R : Nat) (v rv : Value) (mx : Nat) (l : List Nat) (o : ActV) (h : Pair w B R v rv mx l) (hb : Below w0.heap.size w0 w) (hlo : ∀ x, PSet B R v rv x → w0.heap.size ≤ x) (ho : o.ok w0) : ActsAs w B R v rv mx o.kd o.obj o.at' o.n o.x o.pa o.np o.cap := by
  by_cases h1 : o.kd = 1
  · rw [h1]; exact acted_put w B R v rv mx l _ _ _ _ _ _ _ h ho.hx
  by_cases h2 : o.kd = 2
  · rw [h2]
    have hp : PartsAt w (PSet B R v rv) o.pa o.ps := (ho.hp.mono (fun x hx s => by have := hlo x s; omega)).below hb
    exact acted_bytes w B R v rv mx l _ _ _ _ _ _ _ o.ps ho.hnp h hp ho.hpl ho.hbs ho.h256
  by_cases h3 : o.kd = 3
  · rw [h3]; exact acted_patch w B R v rv mx l _ _ _ _ _ _ _ h ho.hx ho.hat
  by_cases h4 : o.kd = 4
  · rw [h4]; exact acted_len w B R v rv mx l _ _ _ _ _ _ _ h
  by_cases h5 : o.kd = 5
  · rw [h5]; exact acted_done w B R v rv mx l _ _ _ _ _ _ _ h
  exact acted_other w B R v rv mx l _ _ _ _ _ _ _ _ h (beq_eq_false_iff_ne.2 h1) (beq_eq_false_iff_ne.2 h2) (beq_eq_false_iff_ne.2 h3) (beq_eq_false_iff_ne.2 h4) (beq_eq_false_iff_ne.2 h5)

/-- the three builders and the two twins -/
structure St (w wr : World) (Z B R D S M K : Nat) (vz v1 r1 v2 r2 : Value) (l1 l2 : List Nat) : Prop where
  z : Bld wr Z vz 3 [1, 2]
  p : Pair wr B R v1 r1 M l1
  q : Pair wr D S v2 r2 K l2
  pq : ∀ x, PSet B R v1 r1 x → ¬ PSet D S v2 r2 x
  zp : ∀ x, BS Z vz x → ¬ PSet B R v1 r1 x
  zq : ∀ x, BS Z vz x → ¬ PSet D S v2 r2 x
  lop : ∀ x, PSet B R v1 r1 x → w.heap.size ≤ x
  loq : ∀ x, PSet D S v2 r2 x → w.heap.size ≤ x
  bel : Below w.heap.size w wr
theorem St.zlt {w wr : World} {Z B R D S M K : Nat} {vz v1 r1 v2 r2 : Value} {l1 l2 : List Nat} (h : St w wr Z B R D S M K vz v1 r1 v2 r2 l1 l2) : ∀ x, BS Z vz x → x < wr.heap.size := by
  rintro x (e | e)
  · rw [e]; exact h.z.lt
  · exact (h.z.own.lt x e).2
theorem St.swap {w wr : World} {Z B R D S M K : Nat} {vz v1 r1 v2 r2 : Value} {l1 l2 : List Nat} (h : St w wr Z B R D S M K vz v1 r1 v2 r2 l1 l2) : St w wr Z D S B R K M vz v2 r2 v1 r1 l2 l1 :=
  ⟨h.z, h.q, h.p, fun x hx s => h.pq x s hx, h.zq, h.zp, h.loq, h.lop, h.bel⟩
theorem St.step {w wr w' : World} {Z B R D S M K : Nat} {vz v1 r1 v2 r2 : Value} {l1 l2 : List Nat} (h : St w wr Z B R D S M K vz v1 r1 v2 r2 l1 l2) (k : AfterP wr B R v1 r1 M w') : ∃ v1' r1' l1', St w w' Z B R D S M K vz v1' r1' v2 r2 l1' l2 := by
  obtain ⟨v', r', l', hp, hq, hc⟩ := k
  have hs := h.bel.size
  refine ⟨v', r', l', ⟨h.z.ch hc h.zp, hp, h.q.ch hc (fun x hx s => h.pq x s hx), fun x hx s => ?_, fun x hx s => ?_, h.zq, fun x hx => ?_, h.loq, h.bel.trans (hc.below h.lop hs)⟩⟩
  · rcases hq x hx with e | e
    · exact h.pq x e s
    · have := h.q.lt x s; omega
  · rcases hq x s with e | e
    · exact h.zp x hx e
    · have := h.zlt x hx; omega
  · rcases hq x hx with e | e
    · exact h.lop x e
    · omega
theorem rbl_new (w : World) (mx : Nat) : RBl (w.alloc (.cells #[.int .i64 mx, .slice none 0 0] 47)) w.heap.size (.slice none 0 0) mx [] :=
  ⟨by simp [go_sem], by simp [go_sem], fun j => by simp [go_sem], by simp, World.ownsRow_nil _ _ _ _, by simp [Value.ownBlock]⟩
theorem bs_new (B x : Nat) (h : BS B (.slice none 0 0) x) : x = B := by
  rcases h with h | h
  · exact h
  · simp [Value.ownBlock] at h

theorem newB_any (n : Int) (w : World) : Calls Try.prog 8 #[.int .i64 n] w fun e w' => ∃ p er, e = .returned (.tuple #[.pointer p, .int .i64 er]) ∧ Below w.heap.size w w' := by
  by_cases h : n < 0 ∨ 65535 < n
  · refine (newB_bad n w h).mono ?_
    rintro e w' ⟨rfl, rfl⟩
    exact ⟨_, _, rfl, Below.refl _ _⟩
  · obtain ⟨k, rfl⟩ : ∃ k : Nat, n = (k : Int) := ⟨n.toNat, by omega⟩
    refine (newB_ok k w (by omega)).mono ?_
    rintro e w' ⟨rfl, _, rfl⟩
    exact ⟨_, _, rfl, (Below.refl _ _).alloc (Nat.le_refl _) _⟩
set_option maxRecDepth 100000 in
set_option maxHeartbeats 3200000 in
theorem walk (w : World) (m : Int) (_w0 : (Lit.int .i64 m).wf = true) (n : Int) (_w1 : (Lit.int .i64 n).wf = true) (a2 : Option Addr) (len2 cap2 : Nat) (ops : List ActV) (hl : ops.length = len2) (hs : Acts w a2 ops) (hn : len2 ≤ 1048576) :
    Calls Try.prog 4 #[.int .i64 m, .int .i64 n, .slice a2 len2 cap2] w fun e w' => e = .returned (.bool true) ∧ Below w.heap.size w w' := by
  subst hl
  clear _w0 _w1
  go_enter Try.func4, Try.ntmps4
  go_wp2_with fail
  refine (newB_ok 3 w (by decide)).mono ?_
  rintro e w1 ⟨rfl, hZ1, hw1⟩
  have b1 : Below w.heap.size w w1 := by rw [hw1]; exact (Below.refl _ _).alloc (Nat.le_refl _) _
  obtain ⟨Z, hZe⟩ : ∃ Z, Z = w.heap.size := ⟨_, rfl⟩
  rw [← hZe] at hZ1 ⊢
  have hZlo : w.heap.size ≤ Z := by omega
  clear hw1 hZe
  go_wp2_with (first | (go_at_call 9; refine (num_any _ _).mono ?_; rintro e w' ⟨rfl, rfl⟩))
  refine (putB_ok Z (.slice none 0 0) 3 [] 2 258 w1 hZ1 (by decide) (by decide) (by decide) (by decide) (by decide)).mono ?_
  rintro e w2 ⟨rfl, vz, hZ2, hzq, hch2⟩
  rw [show ([] : List Nat) ++ byN 2 258 = [1, 2] from by decide] at hZ2
  have hzlo : ∀ x, BS Z vz x → w.heap.size ≤ x := by
    rintro x (e | e)
    · omega
    · rcases hzq x e with e | e
      · simp [Value.ownBlock] at e
      · have := b1.size; omega
  have b2 : Below w.heap.size w w2 := b1.trans (hch2.below (fun x hx => by rw [bs_new Z x hx]; exact hZlo) b1.size)
  clear hch2 hzq hZ1 b1
  go_wp2_with (first | (go_at_call 9; refine (num_any _ _).mono ?_; rintro e w' ⟨rfl, rfl⟩))
  refine (doneB_any Z vz 3 [1, 2] w2 hZ2 (by simp)).mono ?_
  rintro e w3 ⟨g3, rfl, ho3, hb3⟩
  have hZ3 := hZ2.below hb3
  have b3 : Below w.heap.size w w3 := b2.trans (hb3.mono b2.size)
  have HS3 : Hid _ := same_eq' (some ⟨g3, 0, none⟩) (some ⟨w3.heap.size, 0, none⟩) 2 2 2 [1, 2] (w3.alloc (.cells #[.int .u8 1, .int .u8 2] 5)) rfl ((owns_seg_at ho3).old ((Below.refl _ _).alloc (Nat.le_refl _) _)) (seg_new3 w3 .u8 5 [1, 2]) (by decide)
  clear hb3 ho3 b2 hZ2
  go_wp2_with fail
  refine Calls.mono HS3.out ?_
  rintro e w4 ⟨rfl, hw4⟩
  have hZ4 : Bld w4 Z vz 3 [1, 2] := by rw [← hw4]; exact hZ3.below ((Below.refl _ _).alloc (Nat.le_refl _) _)
  have b4 : Below w.heap.size w w4 := by rw [← hw4]; exact b3.alloc b3.size _
  clear hw4 HS3 hZ3 b3
  by_cases hm : m < 0 ∨ 65535 < m
  · have HM : Hid (m < 0 ∨ 65535 < m) := hm
    by_cases hm0 : m < 0
    · clear hm
      go_wp2_with fail
      refine (newB_bad m _ HM.out).mono ?_
      rintro e w5 ⟨rfl, rfl⟩
      go_wp2_with fail
      refine (newB_any n _).mono ?_
      rintro e w5 ⟨p, er, rfl, hb5⟩
      go_wp2_with (first | (go_at_call 9; refine (num_any _ _).mono ?_; rintro e w' ⟨rfl, rfl⟩))
      go_ret
      exact ⟨rfl, b4.trans (hb5.mono b4.size)⟩
    · have hm1 : 65535 < m := by omega
      clear hm
      go_wp2_with fail
      refine (newB_bad m _ HM.out).mono ?_
      rintro e w5 ⟨rfl, rfl⟩
      go_wp2_with fail
      refine (newB_any n _).mono ?_
      rintro e w5 ⟨p, er, rfl, hb5⟩
      go_wp2_with (first | (go_at_call 9; refine (num_any _ _).mono ?_; rintro e w' ⟨rfl, rfl⟩))
      go_ret
      exact ⟨rfl, b4.trans (hb5.mono b4.size)⟩
  · obtain ⟨M, rfl⟩ : ∃ M : Nat, m = (M : Int) := ⟨m.toNat, by omega⟩
    have hM : M ≤ 65535 := by omega
    clear hm
    by_cases hnn : n < 0 ∨ 65535 < n
    · have HNN : Hid (n < 0 ∨ 65535 < n) := hnn
      by_cases hm0 : n < 0
      · clear hnn
        go_wp2_with fail
        refine (newB_ok M _ hM).mono ?_
        rintro e w5 ⟨rfl, _, rfl⟩
        go_wp2_with fail
        refine (newB_bad n _ HNN.out).mono ?_
        rintro e w5 ⟨rfl, rfl⟩
        go_wp2_with (first | (go_at_call 9; refine (num_any _ _).mono ?_; rintro e w' ⟨rfl, rfl⟩))
        go_ret
        exact ⟨rfl, b4.alloc b4.size _⟩
      · have hm1 : 65535 < n := by omega
        clear hnn
        go_wp2_with fail
        refine (newB_ok M _ hM).mono ?_
        rintro e w5 ⟨rfl, _, rfl⟩
        go_wp2_with fail
        refine (newB_bad n _ HNN.out).mono ?_
        rintro e w5 ⟨rfl, rfl⟩
        go_wp2_with (first | (go_at_call 9; refine (num_any _ _).mono ?_; rintro e w' ⟨rfl, rfl⟩))
        go_ret
        exact ⟨rfl, b4.alloc b4.size _⟩
    · obtain ⟨K, rfl⟩ : ∃ K : Nat, n = (K : Int) := ⟨n.toNat, by omega⟩
      have hK : K ≤ 65535 := by omega
      clear hnn
      go_wp2_with fail
      refine (newB_ok M _ hM).mono ?_
      rintro e w5 ⟨rfl, hB5, hw5⟩
      have b5 : Below w4.heap.size w4 w5 := by rw [hw5]; exact (Below.refl _ _).alloc (Nat.le_refl _) _
      obtain ⟨B, hBe⟩ : ∃ B, B = w4.heap.size := ⟨_, rfl⟩
      rw [← hBe] at hB5 ⊢
      have hB1 : w4.heap.size ≤ B := by omega
      have hlB := hB5.lt
      clear hw5 hBe
      go_wp2_with fail
      refine (newB_ok K _ hK).mono ?_
      rintro e w6 ⟨rfl, hD6, hw6⟩
      have b6 : Below w5.heap.size w5 w6 := by rw [hw6]; exact (Below.refl _ _).alloc (Nat.le_refl _) _
      obtain ⟨D, hDe⟩ : ∃ D, D = w5.heap.size := ⟨_, rfl⟩
      rw [← hDe] at hD6 ⊢
      have hlD := hD6.lt
      have hzl : ∀ x, BS Z vz x → x < w4.heap.size := by
        rintro x (e | e)
        · rw [e]; exact hZ4.lt
        · exact (hZ4.own.lt x e).2
      have hs4 := b4.size
      obtain ⟨w7, hw7⟩ : ∃ w7, w7 = w6.alloc (.cells #[.int .i64 (M : Int), .slice none 0 0] 47) := ⟨_, rfl⟩
      obtain ⟨w8, hw8⟩ : ∃ w8, w8 = w7.alloc (.cells #[.int .i64 (K : Int), .slice none 0 0] 47) := ⟨_, rfl⟩
      have b7 : Below w6.heap.size w6 w7 := by rw [hw7]; exact (Below.refl _ _).alloc (Nat.le_refl _) _
      have b8 : Below w7.heap.size w7 w8 := by rw [hw8]; exact (Below.refl _ _).alloc (Nat.le_refl _) _
      have hR7 : RBl w7 w6.heap.size (.slice none 0 0) M [] := by rw [hw7]; exact rbl_new w6 M
      have hS8 : RBl w8 w7.heap.size (.slice none 0 0) K [] := by rw [hw8]; exact rbl_new w7 K
      have hl7 : w7.heap.size = w6.heap.size + 1 := by rw [hw7]; simp
      obtain ⟨R, hRe⟩ : ∃ R, R = w6.heap.size := ⟨_, rfl⟩
      obtain ⟨S, hSe⟩ : ∃ S, S = w7.heap.size := ⟨_, rfl⟩
      rw [← hRe] at hR7 hl7
      rw [← hSe] at hS8
      have hst : St w w8 Z B R D S M K vz (.slice none 0 0) (.slice none 0 0) (.slice none 0 0) (.slice none 0 0) [] [] := by
        refine ⟨(((hZ4.below b5).below b6).below b7).below b8, ⟨((hB5.below b6).below b7).below b8, hR7.below b8, by simp, hM, (fun x hx => by cases hx), ?_⟩, ⟨(hD6.below b7).below b8, hS8, by simp, hK, (fun x hx => by cases hx), ?_⟩, ?_, ?_, ?_, ?_, ?_, ?_⟩
        · intro x h1 h2
          have := bs_new _ _ h1; have := bs_new _ _ h2; omega
        · intro x h1 h2
          have := bs_new _ _ h1; have := bs_new _ _ h2; omega
        · rintro x (h1 | h1) (h2 | h2) <;> (have := bs_new _ _ h1; have := bs_new _ _ h2; omega)
        · rintro x h1 (h2 | h2) <;> (have := hzl x h1; have := bs_new _ _ h2; omega)
        · rintro x h1 (h2 | h2) <;> (have := hzl x h1; have := bs_new _ _ h2; omega)
        · rintro x (h2 | h2) <;> (have := bs_new _ _ h2; omega)
        · rintro x (h2 | h2) <;> (have := bs_new _ _ h2; omega)
        · exact (((b4.trans (b5.mono hs4)).trans (b6.mono (by omega))).trans (b7.mono (by omega))).trans (b8.mono (by omega))
      have HW8 : Hid (w8 = (w6.alloc (.cells #[.int .i64 (M : Int), .slice none 0 0] 47)).alloc (.cells #[.int .i64 (K : Int), .slice none 0 0] 47)) := by show _ = _; rw [hw8, hw7]
      have HSE : Hid (w6.heap.size + 1 = S) := by show _ = _; omega
      have HRE : Hid (w6.heap.size = R) := hRe.symm
      clear hw7 hw8 hl7 hRe hSe hR7 hS8 b5 b6 b7 b8 hB5 hD6 hZ4 hzl hlB hlD hw6 hDe b4 hs4 hB1
      go_wp2_with (first | (go_at_call 9; refine (num_any _ _).mono ?_; rintro e w' ⟨rfl, rfl⟩))
      rw [← HW8.out, HSE.out, HRE.out]
      clear HW8 HSE HRE
      go_loopw [14] (fun ix wr => ∃ (k : Nat) (v1 r1 v2 r2 : Value) (l1 l2 : List Nat), k ≤ ops.length ∧ ix = .int .i64 k ∧ St w wr Z B R D S M K vz v1 r1 v2 r2 l1 l2) (fun ix _ => ops.length - (intOf ix).toNat)
      case atStart => exact ⟨0, _, _, _, _, _, _, Nat.zero_le _, rfl, hst⟩
      case round =>
      obtain ⟨k, v1, r1, v2, r2, l1, l2, hk, rfl, hst⟩ := hrel
      by_cases hlt : k < ops.length
      · obtain ⟨o, ho⟩ : ∃ o, ops[k]? = some o := ⟨ops[k], by simp [hlt]⟩
        obtain ⟨hok, b, off, rfl, hbl, hcc⟩ := ListG.at hs k o ho
        have hcc' : ∀ j, j < 6 → wr.cell? ⟨b, off + k * 6 + j, none⟩ = o.cells[j]? := fun j hj => (hst.bel.cell (p := ⟨b, off + k * 6 + j, none⟩) hbl).trans (hcc j hj)
        have q0 : wr.cell? ⟨b, off + k * 6, none⟩ = some (.int .i64 o.kd) := hcc' 0 (by decide)
        have q1 : wr.cell? ⟨b, off + k * 6 + 1, none⟩ = some (.int .i64 o.obj) := hcc' 1 (by decide)
        have q2 : wr.cell? ⟨b, off + k * 6 + 2, none⟩ = some (.int .i64 o.at') := hcc' 2 (by decide)
        have q3 : wr.cell? ⟨b, off + k * 6 + 3, none⟩ = some (.int .i64 o.n) := hcc' 3 (by decide)
        have q4 : wr.cell? ⟨b, off + k * 6 + 4, none⟩ = some (.int .u64 (o.x : Int)) := hcc' 4 (by decide)
        have q5 : wr.cell? ⟨b, off + k * 6 + 5, none⟩ = some (.slice o.pa o.np o.cap) := hcc' 5 (by decide)
        clear ho hcc hcc'
        by_cases hobj : o.obj = 1
        · have HA : Hid _ := acted_any w wr D S v2 r2 K l2 o hst.q hst.bel hst.loq hok
          unfold ActsAs at HA
          rw [hobj] at q1 HA
          go_wp2_with fail
          refine Calls.mono HA.out ?_
          rintro e w' ⟨rfl, hA⟩
          obtain ⟨v2', r2', l2', hst'⟩ := hst.swap.step hA
          have hst' := hst'.swap
          clear hst hA HA q0 q1 q2 q3 q4 q5
          go_wp2
          go_roundw
          case rel => exact ⟨k + 1, _, _, _, _, _, _, by omega, by go_num, hst'⟩
          case measure => simp [intOf]; omega
        · have hd : (o.obj == 1) = false := beq_eq_false_iff_ne.2 hobj
          have HA : Hid _ := acted_any w wr B R v1 r1 M l1 o hst.p hst.bel hst.lop hok
          unfold ActsAs at HA
          go_wp2_with fail
          refine Calls.mono HA.out ?_
          rintro e w' ⟨rfl, hA⟩
          obtain ⟨v1', r1', l1', hst'⟩ := hst.step hA
          clear hst hA HA q0 q1 q2 q3 q4 q5
          go_wp2
          go_roundw
          case rel => exact ⟨k + 1, _, _, _, _, _, _, by omega, by go_num, hst'⟩
          case measure => simp [intOf]; omega
      have hdw : Below wr.heap.size wr wr.drew := (Below.refl _ _).drew
      have hp1 := hst.p.below hdw
      have hq := hst.q.below hdw
      have hz := hst.z.below hdw
      have hw : Below w.heap.size w wr.drew := hst.bel.drew
      have hl1 : l1.length ≤ 65535 := Nat.le_trans hst.p.hl hst.p.hmx
      have hl2 : l2.length ≤ 65535 := Nat.le_trans hst.q.hl hst.q.hmx
      have r0 := hp1.ref.c1
      obtain ⟨ra, rc, hrv⟩ := owns_shape hp1.ref.own
      have hsr : Seg .u8 wr.drew ra (toI l1) := by have := hp1.ref.own; rw [hrv] at this; exact owns_seg_at this
      have hlR := hp1.ref.lt
      rw [hrv] at r0
      obtain ⟨sa, sc, hsv⟩ := owns_shape hq.ref.own
      have HSV : Hid (r2 = .slice sa l2.length sc) := hsv
      have HRV : Hid (r1 = .slice ra l1.length rc) := hrv
      clear hrv hsv hst
      go_upto_region 23 with fail
      refine Mix.start (by kernel_rfl) ?_
      refine Mix.take [true, false, true, true, true] 19 (by kernel_rfl) (by kernel_rfl) (by decide) (by kernel_rfl) (fun K hK => ?_)
      simp only [Mix.pick]
      repeat (go_big_quiet_step (fail))
      refine wpQuiet_nil (hK _ ?_)
      clear hK K
      refine Mix.pair [false, true] [false, false, false, false, false, true] 18 1 5 _ _ rfl rfl rfl rfl (by kernel_rfl) (by kernel_rfl) (fun K hK => ?_) (fun K hK => ?_)
      · simp only [Mix.pick]
        go_wp2_with fail
        refine (doneB_any B v1 M l1 _ hp1.bld hl1).mono ?_
        rintro e w1 ⟨g1, rfl, ho1, hb1⟩
        have s1 : w1.cell? ⟨R, 1, none⟩ = some (.slice ra l1.length rc) := (hb1.cell hlR).trans r0
        have HS1 : Hid _ := same_eq' (some ⟨g1, 0, none⟩) ra l1.length l1.length rc l1 w1 rfl (owns_seg_at ho1) (hsr.old hb1) hp1.h256
        have hq1 := hq.below hb1
        have hz1' := hz.below hb1
        have hw1 := hw.trans (hb1.mono hw.size)
        have t0 := hq1.ref.c1
        rw [HSV.out] at t0
        clear ho1
        go_wp2
        refine ⟨rfl, hK _ _ ?_⟩
        clear hK K
        refine Mix.one [false, false, false, false, false, true] 17 5 _ rfl rfl (by kernel_rfl) (by kernel_rfl) (fun K hK => ?_)
        simp only [Mix.pick]
        go_wp2
        refine ⟨rfl, hK _ _ ?_⟩
        clear hK K
        refine Mix.one [false, false, false, false, false, false, true] 16 6 _ rfl rfl (by kernel_rfl) (by kernel_rfl) (fun K hK => ?_)
        simp only [Mix.pick]
        go_wp2_with fail
        refine Calls.mono HS1.out ?_
        rintro e w2 ⟨rfl, rfl⟩
        go_wp2
        refine ⟨rfl, hK _ _ ?_⟩
        clear hK K
        refine Mix.take [false, false, false, false, false, false, false, true, true, false, true, true, true] 11 (by kernel_rfl) (by kernel_rfl) (by decide) (by kernel_rfl) (fun K hK => ?_)
        simp only [Mix.pick]
        repeat (go_big_quiet_step (fail))
        refine wpQuiet_nil (hK _ ?_)
        clear hK K
        refine Mix.pair [false, false, false, false, false, false, false, false, false, true] [false, false, false, false, false, false, false, false, false, false, false, false, false, true] 10 9 13 _ _ rfl rfl rfl rfl (by kernel_rfl) (by kernel_rfl) (fun K hK => ?_) (fun K hK => ?_)
        · simp only [Mix.pick]
          go_wp2_with fail
          refine (doneB_any D v2 _ l2 _ hq1.bld hl2).mono ?_
          rintro e w3 ⟨g3, rfl, ho3, hb3⟩
          have s3 : w3.cell? ⟨S, 1, none⟩ = some (.slice sa l2.length sc) := (hb3.cell hq1.ref.lt).trans t0
          have hss : Seg .u8 w3 sa (toI l2) := by have := (hq1.below hb3).ref.own; rw [HSV.out] at this; exact owns_seg_at this
          have HS3 : Hid _ := same_eq' (some ⟨g3, 0, none⟩) sa l2.length l2.length sc l2 w3 rfl (owns_seg_at ho3) hss hq1.h256
          have hz3 := hz1'.below hb3
          have hw3 := hw1.trans (hb3.mono hw1.size)
          clear ho3 hss
          go_wp2
          refine ⟨rfl, hK _ _ ?_⟩
          clear hK K
          refine Mix.one [false, false, false, false, false, false, false, false, false, false, false, false, false, true] 9 13 _ rfl rfl (by kernel_rfl) (by kernel_rfl) (fun K hK => ?_)
          simp only [Mix.pick]
          go_wp2
          refine ⟨rfl, hK _ _ ?_⟩
          clear hK K
          refine Mix.one [false, false, false, false, false, false, false, false, false, false, false, false, false, false, true] 8 14 _ rfl rfl (by kernel_rfl) (by kernel_rfl) (fun K hK => ?_)
          simp only [Mix.pick]
          go_wp2_with fail
          refine Calls.mono HS3.out ?_
          rintro e w4 ⟨rfl, rfl⟩
          go_wp2
          refine ⟨rfl, hK _ _ ?_⟩
          clear hK K
          refine Mix.take [false, false, false, false, false, false, false, false, false, false, false, false, false, false, false, true, true, true] 5 (by kernel_rfl) (by kernel_rfl) (by decide) (by kernel_rfl) (fun K hK => ?_)
          simp only [Mix.pick]
          repeat (go_big_quiet_step (fail))
          refine wpQuiet_nil (hK _ ?_)
          clear hK K
          refine Mix.pair [false, false, false, false, false, false, false, false, false, false, false, false, false, false, false, false, false, false, true] [false, false, false, false, false, false, false, false, false, false, false, false, false, false, false, false, false, false, false, true] 4 18 19 _ _ rfl rfl rfl rfl (by kernel_rfl) (by kernel_rfl) (fun K hK => ?_) (fun K hK => ?_)
          · simp only [Mix.pick]
            go_wp2_with fail
            refine (doneB_any Z vz 3 [1, 2] _ hz3 (by simp)).mono ?_
            rintro e w5 ⟨g5, rfl, ho5, hb5⟩
            have HS5 : Hid _ := same_eq' (some ⟨g5, 0, none⟩) (some ⟨w5.heap.size, 0, none⟩) 2 2 2 [1, 2] (w5.alloc (.cells #[.int .u8 1, .int .u8 2] 5)) rfl ((owns_seg_at ho5).old ((Below.refl _ _).alloc (Nat.le_refl _) _)) (seg_new3 w5 .u8 5 [1, 2]) (by decide)
            have hwe0 := hw3.trans (hb5.mono hw3.size)
            have hwe := hwe0.alloc hwe0.size (.cells #[.int .u8 1, .int .u8 2] 5)
            clear ho5 hb5
            go_wp2
            refine ⟨rfl, hK _ _ ?_⟩
            clear hK K
            refine Mix.one [false, false, false, false, false, false, false, false, false, false, false, false, false, false, false, false, false, false, false, true] 3 19 _ rfl rfl (by kernel_rfl) (by kernel_rfl) (fun K hK => ?_)
            simp only [Mix.pick]
            go_wp2
            refine ⟨rfl, hK _ _ ?_⟩
            clear hK K
            refine Mix.one [false, false, false, false, false, false, false, false, false, false, false, false, false, false, false, false, false, false, false, false, true] 2 20 _ rfl rfl (by kernel_rfl) (by kernel_rfl) (fun K hK => ?_)
            simp only [Mix.pick]
            go_wp2_with fail
            refine Calls.mono HS5.out ?_
            rintro e w6 ⟨rfl, rfl⟩
            go_wp2
            refine ⟨rfl, hK _ _ ?_⟩
            clear hK K
            refine Mix.take [false, false, false, false, false, false, false, false, false, false, false, false, false, false, false, false, false, false, false, false, false, true, true] 0 (by kernel_rfl) (by kernel_rfl) (by decide) (by kernel_rfl) (fun K hK => ?_)
            simp only [Mix.pick]
            repeat (go_big_quiet_step (fail))
            refine wpQuiet_nil (hK _ ?_)
            clear hK K
            refine Mix.done (by kernel_rfl) ?_
            go_wp2
            go_ret
            exact ⟨rfl, hwe⟩
          · simp only [Mix.pick]
            go_wp2
            refine ⟨rfl, hK _ _ ?_⟩
            clear hK K
            refine Mix.one [false, false, false, false, false, false, false, false, false, false, false, false, false, false, false, false, false, false, true] 3 18 _ rfl rfl (by kernel_rfl) (by kernel_rfl) (fun K hK => ?_)
            simp only [Mix.pick]
            go_wp2_with fail
            refine (doneB_any Z vz 3 [1, 2] _ (hz3.below ((Below.refl _ _).alloc (Nat.le_refl _) _)) (by simp)).mono ?_
            rintro e w5 ⟨g5, rfl, ho5, hb5⟩
            have HS5 : Hid _ := same_eq' (some ⟨g5, 0, none⟩) (some ⟨w3.heap.size, 0, none⟩) 2 2 2 [1, 2] w5 rfl (owns_seg_at ho5) (Seg.old (seg_new3 w3 .u8 5 [1, 2]) hb5) (by decide)
            have hwe := (hw3.alloc hw3.size (.cells #[.int .u8 1, .int .u8 2] 5)).trans (hb5.mono (by have := hw3.size; simp; omega))
            clear ho5 hb5
            go_wp2
            refine ⟨rfl, hK _ _ ?_⟩
            clear hK K
            refine Mix.one [false, false, false, false, false, false, false, false, false, false, false, false, false, false, false, false, false, false, false, false, true] 2 20 _ rfl rfl (by kernel_rfl) (by kernel_rfl) (fun K hK => ?_)
            simp only [Mix.pick]
            go_wp2_with fail
            refine Calls.mono HS5.out ?_
            rintro e w6 ⟨rfl, rfl⟩
            go_wp2
            refine ⟨rfl, hK _ _ ?_⟩
            clear hK K
            refine Mix.take [false, false, false, false, false, false, false, false, false, false, false, false, false, false, false, false, false, false, false, false, false, true, true] 0 (by kernel_rfl) (by kernel_rfl) (by decide) (by kernel_rfl) (fun K hK => ?_)
            simp only [Mix.pick]
            repeat (go_big_quiet_step (fail))
            refine wpQuiet_nil (hK _ ?_)
            clear hK K
            refine Mix.done (by kernel_rfl) ?_
            go_wp2
            go_ret
            exact ⟨rfl, hwe⟩
        · simp only [Mix.pick]
          go_wp2
          refine ⟨rfl, hK _ _ ?_⟩
          clear hK K
          refine Mix.one [false, false, false, false, false, false, false, false, false, true] 9 9 _ rfl rfl (by kernel_rfl) (by kernel_rfl) (fun K hK => ?_)
          simp only [Mix.pick]
          go_wp2_with fail
          refine (doneB_any D v2 _ l2 _ hq1.bld hl2).mono ?_
          rintro e w3 ⟨g3, rfl, ho3, hb3⟩
          have s3 : w3.cell? ⟨S, 1, none⟩ = some (.slice sa l2.length sc) := (hb3.cell hq1.ref.lt).trans t0
          have hss : Seg .u8 w3 sa (toI l2) := by have := (hq1.below hb3).ref.own; rw [HSV.out] at this; exact owns_seg_at this
          have HS3 : Hid _ := same_eq' (some ⟨g3, 0, none⟩) sa l2.length l2.length sc l2 w3 rfl (owns_seg_at ho3) hss hq1.h256
          have hz3 := hz1'.below hb3
          have hw3 := hw1.trans (hb3.mono hw1.size)
          clear ho3 hss
          go_wp2
          refine ⟨rfl, hK _ _ ?_⟩
          clear hK K
          refine Mix.one [false, false, false, false, false, false, false, false, false, false, false, false, false, false, true] 8 14 _ rfl rfl (by kernel_rfl) (by kernel_rfl) (fun K hK => ?_)
          simp only [Mix.pick]
          go_wp2_with fail
          refine Calls.mono HS3.out ?_
          rintro e w4 ⟨rfl, rfl⟩
          go_wp2
          refine ⟨rfl, hK _ _ ?_⟩
          clear hK K
          refine Mix.take [false, false, false, false, false, false, false, false, false, false, false, false, false, false, false, true, true, true] 5 (by kernel_rfl) (by kernel_rfl) (by decide) (by kernel_rfl) (fun K hK => ?_)
          simp only [Mix.pick]
          repeat (go_big_quiet_step (fail))
          refine wpQuiet_nil (hK _ ?_)
          clear hK K
          refine Mix.pair [false, false, false, false, false, false, false, false, false, false, false, false, false, false, false, false, false, false, true] [false, false, false, false, false, false, false, false, false, false, false, false, false, false, false, false, false, false, false, true] 4 18 19 _ _ rfl rfl rfl rfl (by kernel_rfl) (by kernel_rfl) (fun K hK => ?_) (fun K hK => ?_)
          · simp only [Mix.pick]
            go_wp2_with fail
            refine (doneB_any Z vz 3 [1, 2] _ hz3 (by simp)).mono ?_
            rintro e w5 ⟨g5, rfl, ho5, hb5⟩
            have HS5 : Hid _ := same_eq' (some ⟨g5, 0, none⟩) (some ⟨w5.heap.size, 0, none⟩) 2 2 2 [1, 2] (w5.alloc (.cells #[.int .u8 1, .int .u8 2] 5)) rfl ((owns_seg_at ho5).old ((Below.refl _ _).alloc (Nat.le_refl _) _)) (seg_new3 w5 .u8 5 [1, 2]) (by decide)
            have hwe0 := hw3.trans (hb5.mono hw3.size)
            have hwe := hwe0.alloc hwe0.size (.cells #[.int .u8 1, .int .u8 2] 5)
            clear ho5 hb5
            go_wp2
            refine ⟨rfl, hK _ _ ?_⟩
            clear hK K
            refine Mix.one [false, false, false, false, false, false, false, false, false, false, false, false, false, false, false, false, false, false, false, true] 3 19 _ rfl rfl (by kernel_rfl) (by kernel_rfl) (fun K hK => ?_)
            simp only [Mix.pick]
            go_wp2
            refine ⟨rfl, hK _ _ ?_⟩
            clear hK K
            refine Mix.one [false, false, false, false, false, false, false, false, false, false, false, false, false, false, false, false, false, false, false, false, true] 2 20 _ rfl rfl (by kernel_rfl) (by kernel_rfl) (fun K hK => ?_)
            simp only [Mix.pick]
            go_wp2_with fail
            refine Calls.mono HS5.out ?_
            rintro e w6 ⟨rfl, rfl⟩
            go_wp2
            refine ⟨rfl, hK _ _ ?_⟩
            clear hK K
            refine Mix.take [false, false, false, false, false, false, false, false, false, false, false, false, false, false, false, false, false, false, false, false, false, true, true] 0 (by kernel_rfl) (by kernel_rfl) (by decide) (by kernel_rfl) (fun K hK => ?_)
            simp only [Mix.pick]
            repeat (go_big_quiet_step (fail))
            refine wpQuiet_nil (hK _ ?_)
            clear hK K
            refine Mix.done (by kernel_rfl) ?_
            go_wp2
            go_ret
            exact ⟨rfl, hwe⟩
          · simp only [Mix.pick]
            go_wp2
            refine ⟨rfl, hK _ _ ?_⟩
            clear hK K
            refine Mix.one [false, false, false, false, false, false, false, false, false, false, false, false, false, false, false, false, false, false, true] 3 18 _ rfl rfl (by kernel_rfl) (by kernel_rfl) (fun K hK => ?_)
            simp only [Mix.pick]
            go_wp2_with fail
            refine (doneB_any Z vz 3 [1, 2] _ (hz3.below ((Below.refl _ _).alloc (Nat.le_refl _) _)) (by simp)).mono ?_
            rintro e w5 ⟨g5, rfl, ho5, hb5⟩
            have HS5 : Hid _ := same_eq' (some ⟨g5, 0, none⟩) (some ⟨w3.heap.size, 0, none⟩) 2 2 2 [1, 2] w5 rfl (owns_seg_at ho5) (Seg.old (seg_new3 w3 .u8 5 [1, 2]) hb5) (by decide)
            have hwe := (hw3.alloc hw3.size (.cells #[.int .u8 1, .int .u8 2] 5)).trans (hb5.mono (by have := hw3.size; simp; omega))
            clear ho5 hb5
            go_wp2
            refine ⟨rfl, hK _ _ ?_⟩
            clear hK K
            refine Mix.one [false, false, false, false, false, false, false, false, false, false, false, false, false, false, false, false, false, false, false, false, true] 2 20 _ rfl rfl (by kernel_rfl) (by kernel_rfl) (fun K hK => ?_)
            simp only [Mix.pick]
            go_wp2_with fail
            refine Calls.mono HS5.out ?_
            rintro e w6 ⟨rfl, rfl⟩
            go_wp2
            refine ⟨rfl, hK _ _ ?_⟩
            clear hK K
            refine Mix.take [false, false, false, false, false, false, false, false, false, false, false, false, false, false, false, false, false, false, false, false, false, true, true] 0 (by kernel_rfl) (by kernel_rfl) (by decide) (by kernel_rfl) (fun K hK => ?_)
            simp only [Mix.pick]
            repeat (go_big_quiet_step (fail))
            refine wpQuiet_nil (hK _ ?_)
            clear hK K
            refine Mix.done (by kernel_rfl) ?_
            go_wp2
            go_ret
            exact ⟨rfl, hwe⟩
      · simp only [Mix.pick]
        go_wp2
        refine ⟨rfl, hK _ _ ?_⟩
        clear hK K
        refine Mix.one [false, true] 17 1 _ rfl rfl (by kernel_rfl) (by kernel_rfl) (fun K hK => ?_)
        simp only [Mix.pick]
        go_wp2_with fail
        refine (doneB_any B v1 M l1 _ hp1.bld hl1).mono ?_
        rintro e w1 ⟨g1, rfl, ho1, hb1⟩
        have s1 : w1.cell? ⟨R, 1, none⟩ = some (.slice ra l1.length rc) := (hb1.cell hlR).trans r0
        have HS1 : Hid _ := same_eq' (some ⟨g1, 0, none⟩) ra l1.length l1.length rc l1 w1 rfl (owns_seg_at ho1) (hsr.old hb1) hp1.h256
        have hq1 := hq.below hb1
        have hz1' := hz.below hb1
        have hw1 := hw.trans (hb1.mono hw.size)
        have t0 := hq1.ref.c1
        rw [HSV.out] at t0
        clear ho1
        go_wp2
        refine ⟨rfl, hK _ _ ?_⟩
        clear hK K
        refine Mix.one [false, false, false, false, false, false, true] 16 6 _ rfl rfl (by kernel_rfl) (by kernel_rfl) (fun K hK => ?_)
        simp only [Mix.pick]
        go_wp2_with fail
        refine Calls.mono HS1.out ?_
        rintro e w2 ⟨rfl, rfl⟩
        go_wp2
        refine ⟨rfl, hK _ _ ?_⟩
        clear hK K
        refine Mix.take [false, false, false, false, false, false, false, true, true, false, true, true, true] 11 (by kernel_rfl) (by kernel_rfl) (by decide) (by kernel_rfl) (fun K hK => ?_)
        simp only [Mix.pick]
        repeat (go_big_quiet_step (fail))
        refine wpQuiet_nil (hK _ ?_)
        clear hK K
        refine Mix.pair [false, false, false, false, false, false, false, false, false, true] [false, false, false, false, false, false, false, false, false, false, false, false, false, true] 10 9 13 _ _ rfl rfl rfl rfl (by kernel_rfl) (by kernel_rfl) (fun K hK => ?_) (fun K hK => ?_)
        · simp only [Mix.pick]
          go_wp2_with fail
          refine (doneB_any D v2 _ l2 _ hq1.bld hl2).mono ?_
          rintro e w3 ⟨g3, rfl, ho3, hb3⟩
          have s3 : w3.cell? ⟨S, 1, none⟩ = some (.slice sa l2.length sc) := (hb3.cell hq1.ref.lt).trans t0
          have hss : Seg .u8 w3 sa (toI l2) := by have := (hq1.below hb3).ref.own; rw [HSV.out] at this; exact owns_seg_at this
          have HS3 : Hid _ := same_eq' (some ⟨g3, 0, none⟩) sa l2.length l2.length sc l2 w3 rfl (owns_seg_at ho3) hss hq1.h256
          have hz3 := hz1'.below hb3
          have hw3 := hw1.trans (hb3.mono hw1.size)
          clear ho3 hss
          go_wp2
          refine ⟨rfl, hK _ _ ?_⟩
          clear hK K
          refine Mix.one [false, false, false, false, false, false, false, false, false, false, false, false, false, true] 9 13 _ rfl rfl (by kernel_rfl) (by kernel_rfl) (fun K hK => ?_)
          simp only [Mix.pick]
          go_wp2
          refine ⟨rfl, hK _ _ ?_⟩
          clear hK K
          refine Mix.one [false, false, false, false, false, false, false, false, false, false, false, false, false, false, true] 8 14 _ rfl rfl (by kernel_rfl) (by kernel_rfl) (fun K hK => ?_)
          simp only [Mix.pick]
          go_wp2_with fail
          refine Calls.mono HS3.out ?_
          rintro e w4 ⟨rfl, rfl⟩
          go_wp2
          refine ⟨rfl, hK _ _ ?_⟩
          clear hK K
          refine Mix.take [false, false, false, false, false, false, false, false, false, false, false, false, false, false, false, true, true, true] 5 (by kernel_rfl) (by kernel_rfl) (by decide) (by kernel_rfl) (fun K hK => ?_)
          simp only [Mix.pick]
          repeat (go_big_quiet_step (fail))
          refine wpQuiet_nil (hK _ ?_)
          clear hK K
          refine Mix.pair [false, false, false, false, false, false, false, false, false, false, false, false, false, false, false, false, false, false, true] [false, false, false, false, false, false, false, false, false, false, false, false, false, false, false, false, false, false, false, true] 4 18 19 _ _ rfl rfl rfl rfl (by kernel_rfl) (by kernel_rfl) (fun K hK => ?_) (fun K hK => ?_)
          · simp only [Mix.pick]
            go_wp2_with fail
            refine (doneB_any Z vz 3 [1, 2] _ hz3 (by simp)).mono ?_
            rintro e w5 ⟨g5, rfl, ho5, hb5⟩
            have HS5 : Hid _ := same_eq' (some ⟨g5, 0, none⟩) (some ⟨w5.heap.size, 0, none⟩) 2 2 2 [1, 2] (w5.alloc (.cells #[.int .u8 1, .int .u8 2] 5)) rfl ((owns_seg_at ho5).old ((Below.refl _ _).alloc (Nat.le_refl _) _)) (seg_new3 w5 .u8 5 [1, 2]) (by decide)
            have hwe0 := hw3.trans (hb5.mono hw3.size)
            have hwe := hwe0.alloc hwe0.size (.cells #[.int .u8 1, .int .u8 2] 5)
            clear ho5 hb5
            go_wp2
            refine ⟨rfl, hK _ _ ?_⟩
            clear hK K
            refine Mix.one [false, false, false, false, false, false, false, false, false, false, false, false, false, false, false, false, false, false, false, true] 3 19 _ rfl rfl (by kernel_rfl) (by kernel_rfl) (fun K hK => ?_)
            simp only [Mix.pick]
            go_wp2
            refine ⟨rfl, hK _ _ ?_⟩
            clear hK K
            refine Mix.one [false, false, false, false, false, false, false, false, false, false, false, false, false, false, false, false, false, false, false, false, true] 2 20 _ rfl rfl (by kernel_rfl) (by kernel_rfl) (fun K hK => ?_)
            simp only [Mix.pick]
            go_wp2_with fail
            refine Calls.mono HS5.out ?_
            rintro e w6 ⟨rfl, rfl⟩
            go_wp2
            refine ⟨rfl, hK _ _ ?_⟩
            clear hK K
            refine Mix.take [false, false, false, false, false, false, false, false, false, false, false, false, false, false, false, false, false, false, false, false, false, true, true] 0 (by kernel_rfl) (by kernel_rfl) (by decide) (by kernel_rfl) (fun K hK => ?_)
            simp only [Mix.pick]
            repeat (go_big_quiet_step (fail))
            refine wpQuiet_nil (hK _ ?_)
            clear hK K
            refine Mix.done (by kernel_rfl) ?_
            go_wp2
            go_ret
            exact ⟨rfl, hwe⟩
          · simp only [Mix.pick]
            go_wp2
            refine ⟨rfl, hK _ _ ?_⟩
            clear hK K
            refine Mix.one [false, false, false, false, false, false, false, false, false, false, false, false, false, false, false, false, false, false, true] 3 18 _ rfl rfl (by kernel_rfl) (by kernel_rfl) (fun K hK => ?_)
            simp only [Mix.pick]
            go_wp2_with fail
            refine (doneB_any Z vz 3 [1, 2] _ (hz3.below ((Below.refl _ _).alloc (Nat.le_refl _) _)) (by simp)).mono ?_
            rintro e w5 ⟨g5, rfl, ho5, hb5⟩
            have HS5 : Hid _ := same_eq' (some ⟨g5, 0, none⟩) (some ⟨w3.heap.size, 0, none⟩) 2 2 2 [1, 2] w5 rfl (owns_seg_at ho5) (Seg.old (seg_new3 w3 .u8 5 [1, 2]) hb5) (by decide)
            have hwe := (hw3.alloc hw3.size (.cells #[.int .u8 1, .int .u8 2] 5)).trans (hb5.mono (by have := hw3.size; simp; omega))
            clear ho5 hb5
            go_wp2
            refine ⟨rfl, hK _ _ ?_⟩
            clear hK K
            refine Mix.one [false, false, false, false, false, false, false, false, false, false, false, false, false, false, false, false, false, false, false, false, true] 2 20 _ rfl rfl (by kernel_rfl) (by kernel_rfl) (fun K hK => ?_)
            simp only [Mix.pick]
            go_wp2_with fail
            refine Calls.mono HS5.out ?_
            rintro e w6 ⟨rfl, rfl⟩
            go_wp2
            refine ⟨rfl, hK _ _ ?_⟩
            clear hK K
            refine Mix.take [false, false, false, false, false, false, false, false, false, false, false, false, false, false, false, false, false, false, false, false, false, true, true] 0 (by kernel_rfl) (by kernel_rfl) (by decide) (by kernel_rfl) (fun K hK => ?_)
            simp only [Mix.pick]
            repeat (go_big_quiet_step (fail))
            refine wpQuiet_nil (hK _ ?_)
            clear hK K
            refine Mix.done (by kernel_rfl) ?_
            go_wp2
            go_ret
            exact ⟨rfl, hwe⟩
        · simp only [Mix.pick]
          go_wp2
          refine ⟨rfl, hK _ _ ?_⟩
          clear hK K
          refine Mix.one [false, false, false, false, false, false, false, false, false, true] 9 9 _ rfl rfl (by kernel_rfl) (by kernel_rfl) (fun K hK => ?_)
          simp only [Mix.pick]
          go_wp2_with fail
          refine (doneB_any D v2 _ l2 _ hq1.bld hl2).mono ?_
          rintro e w3 ⟨g3, rfl, ho3, hb3⟩
          have s3 : w3.cell? ⟨S, 1, none⟩ = some (.slice sa l2.length sc) := (hb3.cell hq1.ref.lt).trans t0
          have hss : Seg .u8 w3 sa (toI l2) := by have := (hq1.below hb3).ref.own; rw [HSV.out] at this; exact owns_seg_at this
          have HS3 : Hid _ := same_eq' (some ⟨g3, 0, none⟩) sa l2.length l2.length sc l2 w3 rfl (owns_seg_at ho3) hss hq1.h256
          have hz3 := hz1'.below hb3
          have hw3 := hw1.trans (hb3.mono hw1.size)
          clear ho3 hss
          go_wp2
          refine ⟨rfl, hK _ _ ?_⟩
          clear hK K
          refine Mix.one [false, false, false, false, false, false, false, false, false, false, false, false, false, false, true] 8 14 _ rfl rfl (by kernel_rfl) (by kernel_rfl) (fun K hK => ?_)
          simp only [Mix.pick]
          go_wp2_with fail
          refine Calls.mono HS3.out ?_
          rintro e w4 ⟨rfl, rfl⟩
          go_wp2
          refine ⟨rfl, hK _ _ ?_⟩
          clear hK K
          refine Mix.take [false, false, false, false, false, false, false, false, false, false, false, false, false, false, false, true, true, true] 5 (by kernel_rfl) (by kernel_rfl) (by decide) (by kernel_rfl) (fun K hK => ?_)
          simp only [Mix.pick]
          repeat (go_big_quiet_step (fail))
          refine wpQuiet_nil (hK _ ?_)
          clear hK K
          refine Mix.pair [false, false, false, false, false, false, false, false, false, false, false, false, false, false, false, false, false, false, true] [false, false, false, false, false, false, false, false, false, false, false, false, false, false, false, false, false, false, false, true] 4 18 19 _ _ rfl rfl rfl rfl (by kernel_rfl) (by kernel_rfl) (fun K hK => ?_) (fun K hK => ?_)
          · simp only [Mix.pick]
            go_wp2_with fail
            refine (doneB_any Z vz 3 [1, 2] _ hz3 (by simp)).mono ?_
            rintro e w5 ⟨g5, rfl, ho5, hb5⟩
            have HS5 : Hid _ := same_eq' (some ⟨g5, 0, none⟩) (some ⟨w5.heap.size, 0, none⟩) 2 2 2 [1, 2] (w5.alloc (.cells #[.int .u8 1, .int .u8 2] 5)) rfl ((owns_seg_at ho5).old ((Below.refl _ _).alloc (Nat.le_refl _) _)) (seg_new3 w5 .u8 5 [1, 2]) (by decide)
            have hwe0 := hw3.trans (hb5.mono hw3.size)
            have hwe := hwe0.alloc hwe0.size (.cells #[.int .u8 1, .int .u8 2] 5)
            clear ho5 hb5
            go_wp2
            refine ⟨rfl, hK _ _ ?_⟩
            clear hK K
            refine Mix.one [false, false, false, false, false, false, false, false, false, false, false, false, false, false, false, false, false, false, false, true] 3 19 _ rfl rfl (by kernel_rfl) (by kernel_rfl) (fun K hK => ?_)
            simp only [Mix.pick]
            go_wp2
            refine ⟨rfl, hK _ _ ?_⟩
            clear hK K
            refine Mix.one [false, false, false, false, false, false, false, false, false, false, false, false, false, false, false, false, false, false, false, false, true] 2 20 _ rfl rfl (by kernel_rfl) (by kernel_rfl) (fun K hK => ?_)
            simp only [Mix.pick]
            go_wp2_with fail
            refine Calls.mono HS5.out ?_
            rintro e w6 ⟨rfl, rfl⟩
            go_wp2
            refine ⟨rfl, hK _ _ ?_⟩
            clear hK K
            refine Mix.take [false, false, false, false, false, false, false, false, false, false, false, false, false, false, false, false, false, false, false, false, false, true, true] 0 (by kernel_rfl) (by kernel_rfl) (by decide) (by kernel_rfl) (fun K hK => ?_)
            simp only [Mix.pick]
            repeat (go_big_quiet_step (fail))
            refine wpQuiet_nil (hK _ ?_)
            clear hK K
            refine Mix.done (by kernel_rfl) ?_
            go_wp2
            go_ret
            exact ⟨rfl, hwe⟩
          · simp only [Mix.pick]
            go_wp2
            refine ⟨rfl, hK _ _ ?_⟩
            clear hK K
            refine Mix.one [false, false, false, false, false, false, false, false, false, false, false, false, false, false, false, false, false, false, true] 3 18 _ rfl rfl (by kernel_rfl) (by kernel_rfl) (fun K hK => ?_)
            simp only [Mix.pick]
            go_wp2_with fail
            refine (doneB_any Z vz 3 [1, 2] _ (hz3.below ((Below.refl _ _).alloc (Nat.le_refl _) _)) (by simp)).mono ?_
            rintro e w5 ⟨g5, rfl, ho5, hb5⟩
            have HS5 : Hid _ := same_eq' (some ⟨g5, 0, none⟩) (some ⟨w3.heap.size, 0, none⟩) 2 2 2 [1, 2] w5 rfl (owns_seg_at ho5) (Seg.old (seg_new3 w3 .u8 5 [1, 2]) hb5) (by decide)
            have hwe := (hw3.alloc hw3.size (.cells #[.int .u8 1, .int .u8 2] 5)).trans (hb5.mono (by have := hw3.size; simp; omega))
            clear ho5 hb5
            go_wp2
            refine ⟨rfl, hK _ _ ?_⟩
            clear hK K
            refine Mix.one [false, false, false, false, false, false, false, false, false, false, false, false, false, false, false, false, false, false, false, false, true] 2 20 _ rfl rfl (by kernel_rfl) (by kernel_rfl) (fun K hK => ?_)
            simp only [Mix.pick]
            go_wp2_with fail
            refine Calls.mono HS5.out ?_
            rintro e w6 ⟨rfl, rfl⟩
            go_wp2
            refine ⟨rfl, hK _ _ ?_⟩
            clear hK K
            refine Mix.take [false, false, false, false, false, false, false, false, false, false, false, false, false, false, false, false, false, false, false, false, false, true, true] 0 (by kernel_rfl) (by kernel_rfl) (by decide) (by kernel_rfl) (fun K hK => ?_)
            simp only [Mix.pick]
            repeat (go_big_quiet_step (fail))
            refine wpQuiet_nil (hK _ ?_)
            clear hK K
            refine Mix.done (by kernel_rfl) ?_
            go_wp2
            go_ret
            exact ⟨rfl, hwe⟩
end Go.Proofs.Ytcgfdhmegagjdaa.viewBuilders
