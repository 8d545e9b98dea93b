/-
  The statements' own: SameOpts, Same, where they are the same.
-/
import Derived.Test.YtdinhgfkpjaipaaDoorI4Har2
namespace Go.Proofs.YtdinhgfkpjaipaaDoor
open Go.RowKit
open I4 (H4)

theorem yields_bytes {ops : Array Oper} {o : Oper} {a : Act} {S : World → Prop} (x : Operand) (ho : o.op = .load 26 x) (p : Addr) (u : Value) (hx : a.eval x = .pointer (some p)) (hw : Region.wanted o (yielded ops a.tmps) = true) (hS : ∀ w, S w → w.cell? p = some u) : YieldsIf Tryd.prog ops S o u a := by
  refine .inl ⟨hw, fun w hb => ?_⟩
  have hc := hS w hb
  have hu := Tryd.underlying26
  obtain ⟨dst, op, type, pos, after, guard⟩ := o
  simp only at ho
  subst ho
  simp only [execOp, Sem.run_bind, Sem.run_pure]
  rw [hx]
  simp [Instr.loadAt, go_sem, hc]
set_option maxHeartbeats 3200000 in
set_option maxRecDepth 100000 in
theorem sameOpts_true (la lb : Option Addr) (n ca cb : Nat) (os ps : List OpV) (w : World) (h1 : OptsAt w la os) (h2 : OptsAt w lb ps) (hn : os.length = n) (hv : vals os = vals ps) (hnn : n ≤ 9223372036854775806) :
    Calls Tryd.prog 40 #[.slice la n ca, .slice lb n cb] w fun e w' => e = .returned (.bool true) ∧ Below w.heap.size w w' := by
  have HN : Hid (os.length = n) := hn
  have HN2 : Hid (ps.length = n) := by have := congrArg List.length hv; simp only [vals, List.length_map] at this; show _ = _; omega
  have HV : Hid (vals os = vals ps) := hv
  have HA : Hid (OptsAt w la os) := h1
  have HB : Hid (OptsAt w lb ps) := h2
  have nn : ((n : Int) != (n : Int)) = false := by simp
  have h48 : n ≤ 9223372036854775806 := hnn
  clear hn hv h1 h2 hnn
  go_enter Tryd.func40, Tryd.ntmps40
  go_wp2
  go_loopw [5] (fun ix wr => ∃ k : Nat, k ≤ n ∧ ix = .int .i64 k ∧ Below w.heap.size w wr) (fun ix _ => n - (intOf ix).toNat)
  case atStart => exact ⟨0, Nat.zero_le _, rfl, Below.refl _ _⟩
  case round =>
    obtain ⟨k, hk, rfl, hb⟩ := hrel
    by_cases hlt : k < n
    · obtain ⟨o, hok⟩ : ∃ o, os[k]? = some o := ⟨_, List.getElem?_eq_getElem (by rw [HN.out]; exact hlt)⟩
      obtain ⟨q, hqk⟩ : ∃ q, ps[k]? = some q := ⟨_, List.getElem?_eq_getElem (by rw [HN2.out]; exact hlt)⟩
      have hval : o.val = q.val := by
        have e1 : (vals os)[k]? = some o.val := by simp [vals, hok]
        have e2 : (vals ps)[k]? = some q.val := by simp [vals, hqk]
        rw [HV.out, e2] at e1
        exact (Option.some.inj e1).symm
      have hkk : o.k = q.k := congrArg Prod.fst hval
      have hdd : o.d = q.d := congrArg Prod.snd hval
      obtain ⟨b1, o1, rfl, hl1, ok1, c10, c11⟩ := HA.out.at k o hok
      obtain ⟨b2, o2, rfl, hl2, ok2, c20, c21⟩ := HB.out.at k q hqk
      rw [← hkk] at c20
      rw [← hdd] at c21
      obtain ⟨kd, hkd⟩ : ∃ kd, kd = o.k := ⟨_, rfl⟩
      obtain ⟨D, hD⟩ : ∃ D, D = o.d.length := ⟨_, rfl⟩
      rw [← hkd] at c10 c20
      rw [← hD] at c11 c21
      have F10 : Hid (∀ x, Below w.heap.size w x → x.cell? ⟨b1, o1 + k * 2, none⟩ = some (.int .i64 kd)) := fun x hx => (hx.cell (p := ⟨b1, o1 + k * 2, none⟩) hl1).trans c10
      have F11 : Hid (∀ x, Below w.heap.size w x → x.cell? ⟨b1, o1 + k * 2 + 1, none⟩ = some (.slice o.a D o.c)) := fun x hx => (hx.cell (p := ⟨b1, o1 + k * 2 + 1, none⟩) hl1).trans c11
      have F20 : Hid (∀ x, Below w.heap.size w x → x.cell? ⟨b2, o2 + k * 2, none⟩ = some (.int .i64 kd)) := fun x hx => (hx.cell (p := ⟨b2, o2 + k * 2, none⟩) hl2).trans c20
      have F21 : Hid (∀ x, Below w.heap.size w x → x.cell? ⟨b2, o2 + k * 2 + 1, none⟩ = some (.slice q.a D q.c)) := fun x hx => (hx.cell (p := ⟨b2, o2 + k * 2 + 1, none⟩) hl2).trans c21
      have QQ : Hid (∀ x, Below w.heap.size w x → Calls Tryd.prog 24 #[.slice o.a D o.c, .slice q.a D q.c] x fun e w' => e = .returned (.bool true) ∧ x = w') := fun x hx => by
        have := alike_any o.a q.a D D o.c q.c o.d q.d x hD.symm (by rw [← hdd]; exact hD.symm) (ok1.seg.old hx) (ok2.seg.old hx) ok1.h256 ok2.h256
        rw [decide_eq_true hdd] at this
        exact this
      have k0 : (0 : Int) ≤ (k : Int) := by omega
      have k1 : (k : Int) < (n : Int) := by omega
      have k2 : ((k : Int)).toNat = k := by omega
      have wk : IntKind.i64.wrap ((k : Int) + 1) = (k : Int) + 1 := by rw [IntKind.wrap_i64]; omega
      have kk : (kd != kd) = false := by simp
      clear hok hqk hval hkk hdd hl1 hl2 ok1 ok2 c10 c11 c20 c21 hkd hD
      go_wp2
      refine MixH.start (fun x => Below w.heap.size w x) (by kernel_rfl) ?_
      obtain ⟨wA, hwA⟩ : ∃ wA, wA = wr.drew := ⟨_, rfl⟩
      have hS : Below w.heap.size w wA := by rw [hwA]; exact hb.drew
      rw [← hwA]
      clear hwA hb
      refine MixH.takes [true, true, true, true, false, true, true, true, true] 4 (by kernel_rfl) (by kernel_rfl) (by decide) (by kernel_rfl) hS (fun K hK => ?_)
      simp only [Mix.pick]
      repeat (go_big_quiet_step (fail))
      refine wpQuiet_nil (hK _ ?_)
      clear hK K
      refine MixH.take 3 4 _ (.slice o.a D o.c) rfl (by kernel_rfl) (by kernel_rfl) (by kernel_rfl) (by kernel_rfl) (yields_bytes (.tmp 21) rfl ⟨b1, o1 + k * 2 + 1, none⟩ _ rfl rfl F11.out) hS (fun a' ha => ?_)
      simp only [Act.put, List.setIfInBounds_toArray, List.set_cons_succ, List.set_cons_zero] at ha
      subst ha
      refine MixH.take 2 9 _ (.slice q.a D q.c) rfl (by kernel_rfl) (by kernel_rfl) (by kernel_rfl) (by kernel_rfl) (yields_bytes (.tmp 26) rfl ⟨b2, o2 + k * 2 + 1, none⟩ _ rfl rfl F21.out) hS (fun a' ha => ?_)
      simp only [Act.put, List.setIfInBounds_toArray, List.set_cons_succ, List.set_cons_zero] at ha
      subst ha
      refine MixH.one [false, false, false, false, false, false, false, false, false, false, true] 1 10 _ rfl rfl (by kernel_rfl) (by kernel_rfl) (fun K hK => ?_)
      simp only [Mix.pick]
      go_wp2_with fail
      refine Calls.mono (QQ.out wA hS) ?_
      rintro e w1 ⟨rfl, rfl⟩
      go_wp2
      refine ⟨rfl, hK _ _ hS ?_⟩
      clear hK K
      refine MixH.takes [false, false, false, false, false, false, false, false, false, false, false, true] 0 (by kernel_rfl) (by kernel_rfl) (by decide) (by kernel_rfl) hS (fun K hK => ?_)
      simp only [Mix.pick]
      repeat (go_big_quiet_step (fail))
      refine wpQuiet_nil (hK _ ?_)
      clear hK K
      refine MixH.done (by kernel_rfl) ?_
      go_wp2
      refine MixH.start (fun x => Below w.heap.size w x) (by kernel_rfl) ?_
      obtain ⟨wB, hwB⟩ : ∃ wB, wB = wA.drew := ⟨_, rfl⟩
      have hS2 : Below w.heap.size w wB := by rw [hwB]; exact hS.drew
      rw [← hwB]
      clear hwB hS
      have hS := hS2
      clear hS2
      refine MixH.takes [true, true, true, true, false, true, true, true, true] 7 (by kernel_rfl) (by kernel_rfl) (by decide) (by kernel_rfl) hS (fun K hK => ?_)
      simp only [Mix.pick]
      repeat (go_big_quiet_step (fail))
      refine wpQuiet_nil (hK _ ?_)
      clear hK K
      refine MixH.take 6 4 _ (.int .i64 kd) rfl (by kernel_rfl) (by kernel_rfl) (by kernel_rfl) (by kernel_rfl) (yields_int (.tmp 32) rfl ⟨b1, o1 + k * 2, none⟩ _ rfl rfl F10.out) hS (fun a' ha => ?_)
      simp only [Act.put, List.setIfInBounds_toArray, List.set_cons_succ, List.set_cons_zero] at ha
      subst ha
      refine MixH.take 5 9 _ (.int .i64 kd) rfl (by kernel_rfl) (by kernel_rfl) (by kernel_rfl) (by kernel_rfl) (yields_int (.tmp 37) rfl ⟨b2, o2 + k * 2, none⟩ _ rfl rfl F20.out) hS (fun a' ha => ?_)
      simp only [Act.put, List.setIfInBounds_toArray, List.set_cons_succ, List.set_cons_zero] at ha
      subst ha
      refine MixH.takes [false, false, false, false, false, false, false, false, false, false, true, true] 3 (by kernel_rfl) (by kernel_rfl) (by decide) (by kernel_rfl) hS (fun K hK => ?_)
      simp only [Mix.pick]
      repeat (go_big_quiet_step (fail))
      refine wpQuiet_nil (hK _ ?_)
      clear hK K
      refine MixH.takes [false, false, false, false, false, false, false, false, false, false, false, false, true, true] 1 (by kernel_rfl) (by kernel_rfl) (by decide) (by kernel_rfl) hS (fun K hK => ?_)
      simp only [Mix.pick]
      repeat (go_big_quiet_step (fail))
      refine wpQuiet_nil (hK _ ?_)
      clear hK K
      refine MixH.takes [false, false, false, false, false, false, false, false, false, false, false, false, false, false, true] 0 (by kernel_rfl) (by kernel_rfl) (by decide) (by kernel_rfl) hS (fun K hK => ?_)
      simp only [Mix.pick]
      repeat (go_big_quiet_step (fail))
      refine wpQuiet_nil (hK _ ?_)
      clear hK K
      refine MixH.done (by kernel_rfl) ?_
      go_wp2
      go_roundw
      case rel => exact ⟨k + 1, by omega, by go_num, hS⟩
      case measure => simp [intOf]; omega
    · have hni : ¬ ((k : Int) < (n : Int)) := by omega
      clear hlt
      go_wp2
      go_ret
      exact ⟨rfl, hb⟩
theorem h4C_eqv {g h : H4} (e : I4.Eqv g h) (ol dl : Value) : h4C g ol dl = h4C h ol dl := by
  unfold h4C
  simp only [e.tos, e.id, e.df, e.mf, e.off, e.ttl, e.proto, e.sv, e.dv, e.sx 0 (by omega), e.sx 1 (by omega), e.sx 2 (by omega), e.sx 3 (by omega), e.sx 4 (by omega), e.sx 5 (by omega), e.sx 6 (by omega), e.sx 7 (by omega), e.sx 8 (by omega), e.sx 9 (by omega), e.sx 10 (by omega), e.sx 11 (by omega), e.sx 12 (by omega), e.sx 13 (by omega), e.sx 14 (by omega), e.sx 15 (by omega),
    e.dx 0 (by omega), e.dx 1 (by omega), e.dx 2 (by omega), e.dx 3 (by omega), e.dx 4 (by omega), e.dx 5 (by omega), e.dx 6 (by omega), e.dx 7 (by omega), e.dx 8 (by omega), e.dx 9 (by omega), e.dx 10 (by omega), e.dx 11 (by omega), e.dx 12 (by omega), e.dx 13 (by omega), e.dx 14 (by omega), e.dx 15 (by omega)]
theorem same16_refl (x : Nat → Nat) : same16 x x = true := by rw [same16_iff]; intro _ _; rfl
set_option maxHeartbeats 3200000 in
set_option maxRecDepth 100000 in
theorem same_true (h : H4) (la lb da db : Option Addr) (n ca cb m da2 db2 : Nat) (os ps : List OpV) (d : List Nat) (w : World) (h1 : OptsAt w la os) (h2 : OptsAt w lb ps) (hn : os.length = n) (hv : vals os = vals ps) (hnn : n ≤ 9223372036854775806)
    (hm : d.length = m) (s1 : Seg .u8 w da (toI d)) (s2 : Seg .u8 w db (toI d)) (h256 : ∀ x ∈ d, x < 256) :
    Calls Tryd.prog 21 #[.agg (h4C h (.slice la n ca) (.slice da m da2)), .agg (h4C h (.slice lb n cb) (.slice db m db2))] w fun e w' => e = .returned (.bool true) ∧ Below w.heap.size w w' := by
  obtain ⟨W1, hW1⟩ : ∃ W, W = w.alloc (.cells (h4C h (.slice la n ca) (.slice da m da2)) 28) := ⟨_, rfl⟩
  obtain ⟨W, hW⟩ : ∃ W, W = W1.alloc (.cells (h4C h (.slice lb n cb) (.slice db m db2)) 28) := ⟨_, rfl⟩
  obtain ⟨O, hO⟩ : ∃ O, O = w.heap.size := ⟨_, rfl⟩
  have hs1 : W1.heap.size = O + 1 := by rw [hW1, hO]; simp
  have bel1 : Below w.heap.size w W1 := by rw [hW1]; exact (Below.refl _ _).alloc (Nat.le_refl _) _
  have belW : Below W1.heap.size W1 W := by rw [hW]; exact (Below.refl _ _).alloc (Nat.le_refl _) _
  have bel := bthen bel1 belW
  have box : H4At W O h (.slice la n ca) (.slice da m da2) := by
    have : H4At W1 O h (.slice la n ca) (.slice da m da2) := by rw [hW1, hO]; exact h4At_new _ _ _ _
    exact this.below belW
  have bx2 : H4At W (O + 1) h (.slice lb n cb) (.slice db m db2) := by rw [hW, ← hs1]; exact h4At_new _ _ _ _
  have a0 := box.c0
  have a1 := box.c1
  have a2 := box.c2
  have a3 := box.c3
  have a4 := box.c4
  have a5 := box.c5
  have a6 := box.c6
  have b0 := bx2.c0
  have b1 := bx2.c1
  have b2 := bx2.c2
  have b3 := bx2.c3
  have b4 := bx2.c4
  have b5 := bx2.c5
  have b6 := bx2.c6
  have a41 := box.c41
  have b41 := bx2.c41
  have SA : Hid _ := box.src
  have DA : Hid _ := box.dst
  have SB : Hid _ := bx2.src
  have DB : Hid _ := bx2.dst
  have HBX : Hid (H4At W O h (.slice la n ca) (.slice da m da2)) := box
  have HBY : Hid (H4At W (O + 1) h (.slice lb n cb) (.slice db m db2)) := bx2
  obtain ⟨C1, hC1⟩ : ∃ C, C = h4C h (.slice la n ca) (.slice da m da2) := ⟨_, rfl⟩
  obtain ⟨C2, hC2⟩ : ∃ C, C = h4C h (.slice lb n cb) (.slice db m db2) := ⟨_, rfl⟩
  have HW : Hid ((w.alloc (.cells C1 28)).alloc (.cells C2 28) = W) := by rw [hC1, hC2, ← hW1]; exact hW.symm
  have HO : Hid (w.heap.size = O) := hO.symm
  rw [← hC1, ← hC2]
  have QO : Hid _ := sameOpts_true la lb n ca cb os ps W (h1.old bel) (h2.old bel) hn hv hnn
  have HAL : Hid (∀ A, Below w.heap.size w A → Calls Tryd.prog 24 #[.slice da m da2, .slice db m db2] A fun e w' => e = .returned (.bool true) ∧ A = w') := fun A hA => by
    have := alike_any da db m m da2 db2 d d A hm hm (s1.old hA) (s2.old hA) h256 h256
    rw [decide_eq_true rfl] at this
    exact this
  have i0 : (h.tos != h.tos) = false := by simp
  have i1 : (h.id != h.id) = false := by simp
  have i2 : (h.df != h.df) = false := by simp
  have i3 : (h.mf != h.mf) = false := by simp
  have i4 : (h.off != h.off) = false := by simp
  have i5 : (h.ttl != h.ttl) = false := by simp
  have i6 : (h.proto != h.proto) = false := by simp
  have r1 : (!(h.sv == h.sv && same16 h.sx h.sx)) = false := by rw [same16_refl]; simp
  have r2 : (!(h.dv == h.dv && same16 h.dx h.dx)) = false := by rw [same16_refl]; simp
  clear hW1 hW hC1 hC2 hO hs1 bel1 belW box bx2 h1 h2 hn hv hnn hm s1 s2 h256
  go_enter Tryd.func21, Tryd.ntmps21
  go_upto_region 1 with fail
  rw [HW.out, HO.out]
  go_wp2_with (first | (refine wpList_load_src _ rfl O 7 h.sv h.sx rfl SA.out rfl ?_) | (refine wpList_load_src _ rfl (O + 1) 7 h.sv h.sx rfl SB.out rfl ?_) | (refine wpList_load_src _ rfl O 24 h.dv h.dx rfl DA.out rfl ?_) | (refine wpList_load_src _ rfl (O + 1) 24 h.dv h.dx rfl DB.out rfl ?_) | (refine wpList_neq_ip _ _ rfl h.sv h.sv h.sx h.sx rfl rfl rfl ?_; rw [r1]) | (refine wpList_neq_ip _ _ rfl h.dv h.dv h.dx h.dx rfl rfl rfl ?_; rw [r2]))
  refine Calls.mono QO.out ?_
  rintro e w1 ⟨rfl, hb1⟩
  have bel1 := bthen bel hb1
  have a42 : w1.cell? ⟨O, 42, none⟩ = some (.slice da m da2) := (H4At.below HBX.out hb1).c42
  have b42 : w1.cell? ⟨O + 1, 42, none⟩ = some (.slice db m db2) := (H4At.below HBY.out hb1).c42
  clear hb1 QO a0 a1 a2 a3 a4 a5 a6 b0 b1 b2 b3 b4 b5 b6 a41 b41 SA SB DA DB
  go_wp2_with fail
  refine Calls.mono (HAL.out w1 bel1) ?_
  rintro e w2 ⟨rfl, rfl⟩
  go_wp2
  go_ret
  exact ⟨rfl, bel1⟩
end Go.Proofs.YtdinhgfkpjaipaaDoor
