/-
  The statements' own: num, Alike, SameOpts, SameUdp, SameTcp, where they are the same.
-/
import Derived.Test.YtfoeepbndfnifaaDoorL9Cl
import Derived.Deep.QuietTactic
namespace Go.Proofs.YtfoeepbndfnifaaDoor
open Go.RowKit
open L4 (U9 T9)

set_option maxHeartbeats 400000 in
set_option maxRecDepth 100000 in
theorem alike_any (a b : Option Addr) (na nb ca cb : Nat) (l m : List Nat) (w : World) (hna : l.length = na) (hnb : m.length = nb) (hl : Seg .u8 w a (toI l)) (hm : Seg .u8 w b (toI m)) (hl2 : ∀ x ∈ l, x < 256) (hm2 : ∀ x ∈ m, x < 256) :
    Calls Tryd.prog 28 #[.slice a na ca, .slice b nb cb] w fun e w' => e = .returned (.bool (decide (l = m))) ∧ w = w' := by
  have k1 := conv_any w a ca l hl hl2
  have k2 := conv_any w b cb m hm hm2
  rw [hna] at k1
  rw [hnb] at k2
  obtain ⟨s, hs⟩ : ∃ s, s = strOf l := ⟨_, rfl⟩
  obtain ⟨t, ht⟩ : ∃ t, t = strOf m := ⟨_, rfl⟩
  rw [← hs] at k1
  rw [← ht] at k2
  have HD : Hid ((s.toList == t.toList) = decide (l = m)) := by
    show (s.toList == t.toList) = decide (l = m)
    rw [hs, ht, ByteArray.toList_eq, ByteArray.toList_eq]
    by_cases h : l = m
    · subst h; simp
    · have : (strOf l).data.toList ≠ (strOf m).data.toList := fun e => h (strOf_eq l m hl2 hm2 (WideShapes.bytes_inj e))
      rw [decide_eq_false h]
      simpa using this
  clear hs ht hna hnb
  go_enter Tryd.func28, Tryd.ntmps28
  go_wp2
  go_ret
  exact ⟨congrArg (fun b => Ending.returned (.bool b)) HD.out, rfl⟩
set_option maxHeartbeats 3200000 in
set_option maxRecDepth 100000 in
theorem sameOpts_true (la lb : Option Addr) (n ca cb : Nat) (os ps : List OpV) (w : World) (h1 : OptsAt w la os) (h2 : OptsAt w lb ps) (hn : os.length = n) (hv : vals os = vals ps) (hnn : n ≤ 9223372036854775806) :
    Calls Tryd.prog 16 #[.slice la n ca, .slice lb n cb] w fun e w' => e = .returned (.bool true) ∧ Below w.heap.size w w' := by
  have HN : Hid (os.length = n) := hn
  have HN2 : Hid (ps.length = n) := by have := congrArg List.length hv; simp only [vals, List.length_map] at this; show _ = _; omega
  have HV : Hid (vals os = vals ps) := hv
  have HA : Hid (OptsAt w la os) := h1
  have HB : Hid (OptsAt w lb ps) := h2
  have nn : ((n : Int) != (n : Int)) = false := by simp
  have h48 : n ≤ 9223372036854775806 := hnn
  clear hn hv h1 h2 hnn
  go_enter Tryd.func16, Tryd.ntmps16
  go_wp2
  go_loopw [5] (fun ix wr => ∃ k : Nat, k ≤ n ∧ ix = .int .i64 k ∧ Below w.heap.size w wr) (fun ix _ => n - (intOf ix).toNat)
  case atStart => exact ⟨0, Nat.zero_le _, rfl, Below.refl _ _⟩
  case round =>
    obtain ⟨k, hk, rfl, hb⟩ := hrel
    by_cases hlt : k < n
    · obtain ⟨o, hok⟩ : ∃ o, os[k]? = some o := ⟨_, List.getElem?_eq_getElem (by rw [HN.out]; exact hlt)⟩
      obtain ⟨q, hqk⟩ : ∃ q, ps[k]? = some q := ⟨_, List.getElem?_eq_getElem (by rw [HN2.out]; exact hlt)⟩
      have hval : o.val = q.val := by
        have e1 : (vals os)[k]? = some o.val := by simp [vals, hok]
        have e2 : (vals ps)[k]? = some q.val := by simp [vals, hqk]
        rw [HV.out, e2] at e1
        exact (Option.some.inj e1).symm
      have hkk : o.k = q.k := congrArg Prod.fst hval
      have hdd : o.d = q.d := congrArg Prod.snd hval
      obtain ⟨b1, o1, rfl, hl1, ok1, c10, c11⟩ := HA.out.at k o hok
      obtain ⟨b2, o2, rfl, hl2, ok2, c20, c21⟩ := HB.out.at k q hqk
      rw [← hkk] at c20
      rw [← hdd] at c21
      obtain ⟨kd, hkd⟩ : ∃ kd, kd = o.k := ⟨_, rfl⟩
      obtain ⟨D, hD⟩ : ∃ D, D = o.d.length := ⟨_, rfl⟩
      rw [← hkd] at c10 c20
      rw [← hD] at c11 c21
      have F10 : Hid (∀ x, Below w.heap.size w x → x.cell? ⟨b1, o1 + k * 2, none⟩ = some (.int .i64 kd)) := fun x hx => (hx.cell (p := ⟨b1, o1 + k * 2, none⟩) hl1).trans c10
      have F11 : Hid (∀ x, Below w.heap.size w x → x.cell? ⟨b1, o1 + k * 2 + 1, none⟩ = some (.slice o.a D o.c)) := fun x hx => (hx.cell (p := ⟨b1, o1 + k * 2 + 1, none⟩) hl1).trans c11
      have F20 : Hid (∀ x, Below w.heap.size w x → x.cell? ⟨b2, o2 + k * 2, none⟩ = some (.int .i64 kd)) := fun x hx => (hx.cell (p := ⟨b2, o2 + k * 2, none⟩) hl2).trans c20
      have F21 : Hid (∀ x, Below w.heap.size w x → x.cell? ⟨b2, o2 + k * 2 + 1, none⟩ = some (.slice q.a D q.c)) := fun x hx => (hx.cell (p := ⟨b2, o2 + k * 2 + 1, none⟩) hl2).trans c21
      have QQ : Hid (∀ x, Below w.heap.size w x → Calls Tryd.prog 28 #[.slice o.a D o.c, .slice q.a D q.c] x fun e w' => e = .returned (.bool true) ∧ x = w') := fun x hx => by
        have := alike_any o.a q.a D D o.c q.c o.d q.d x hD.symm (by rw [← hdd]; exact hD.symm) (ok1.seg.old hx) (ok2.seg.old hx) ok1.h256 ok2.h256
        rw [decide_eq_true hdd] at this
        exact this
      have k0 : (0 : Int) ≤ (k : Int) := by omega
      have k1 : (k : Int) < (n : Int) := by omega
      have k2 : ((k : Int)).toNat = k := by omega
      have wk : IntKind.i64.wrap ((k : Int) + 1) = (k : Int) + 1 := by rw [IntKind.wrap_i64]; omega
      have kk : (kd != kd) = false := by simp
      clear hok hqk hval hkk hdd hl1 hl2 ok1 ok2 c10 c11 c20 c21 hkd hD
      go_wp2
      refine MixH.start (fun x => Below w.heap.size w x) (by kernel_rfl) ?_
      obtain ⟨wA, hwA⟩ : ∃ wA, wA = wr.drew := ⟨_, rfl⟩
      have hS : Below w.heap.size w wA := by rw [hwA]; exact hb.drew
      rw [← hwA]
      clear hwA hb
      refine MixH.takes [true, true, true, true, false, true, true, true, true] 4 (by kernel_rfl) (by kernel_rfl) (by decide) (by kernel_rfl) hS (fun K hK => ?_)
      simp only [Mix.pick]
      repeat (go_big_quiet_step (fail))
      refine wpQuiet_nil (hK _ ?_)
      clear hK K
      refine MixH.take 3 4 _ (.slice o.a D o.c) rfl (by kernel_rfl) (by kernel_rfl) (by kernel_rfl) (by kernel_rfl) (yields_bytes (.tmp 21) rfl ⟨b1, o1 + k * 2 + 1, none⟩ _ rfl rfl F11.out) hS (fun a' ha => ?_)
      simp only [Act.put, List.setIfInBounds_toArray, List.set_cons_succ, List.set_cons_zero] at ha
      subst ha
      refine MixH.take 2 9 _ (.slice q.a D q.c) rfl (by kernel_rfl) (by kernel_rfl) (by kernel_rfl) (by kernel_rfl) (yields_bytes (.tmp 26) rfl ⟨b2, o2 + k * 2 + 1, none⟩ _ rfl rfl F21.out) hS (fun a' ha => ?_)
      simp only [Act.put, List.setIfInBounds_toArray, List.set_cons_succ, List.set_cons_zero] at ha
      subst ha
      refine MixH.one [false, false, false, false, false, false, false, false, false, false, true] 1 10 _ rfl rfl (by kernel_rfl) (by kernel_rfl) (fun K hK => ?_)
      simp only [Mix.pick]
      go_wp2_with fail
      refine Calls.mono (QQ.out wA hS) ?_
      rintro e w1 ⟨rfl, rfl⟩
      go_wp2
      refine ⟨rfl, hK _ _ hS ?_⟩
      clear hK K
      refine MixH.takes [false, false, false, false, false, false, false, false, false, false, false, true] 0 (by kernel_rfl) (by kernel_rfl) (by decide) (by kernel_rfl) hS (fun K hK => ?_)
      simp only [Mix.pick]
      repeat (go_big_quiet_step (fail))
      refine wpQuiet_nil (hK _ ?_)
      clear hK K
      refine MixH.done (by kernel_rfl) ?_
      go_wp2
      refine MixH.start (fun x => Below w.heap.size w x) (by kernel_rfl) ?_
      obtain ⟨wB, hwB⟩ : ∃ wB, wB = wA.drew := ⟨_, rfl⟩
      have hS2 : Below w.heap.size w wB := by rw [hwB]; exact hS.drew
      rw [← hwB]
      clear hwB hS
      have hS := hS2
      clear hS2
      refine MixH.takes [true, true, true, true, false, true, true, true, true] 7 (by kernel_rfl) (by kernel_rfl) (by decide) (by kernel_rfl) hS (fun K hK => ?_)
      simp only [Mix.pick]
      repeat (go_big_quiet_step (fail))
      refine wpQuiet_nil (hK _ ?_)
      clear hK K
      refine MixH.take 6 4 _ (.int .i64 kd) rfl (by kernel_rfl) (by kernel_rfl) (by kernel_rfl) (by kernel_rfl) (yields_int (.tmp 32) rfl ⟨b1, o1 + k * 2, none⟩ _ rfl rfl F10.out) hS (fun a' ha => ?_)
      simp only [Act.put, List.setIfInBounds_toArray, List.set_cons_succ, List.set_cons_zero] at ha
      subst ha
      refine MixH.take 5 9 _ (.int .i64 kd) rfl (by kernel_rfl) (by kernel_rfl) (by kernel_rfl) (by kernel_rfl) (yields_int (.tmp 37) rfl ⟨b2, o2 + k * 2, none⟩ _ rfl rfl F20.out) hS (fun a' ha => ?_)
      simp only [Act.put, List.setIfInBounds_toArray, List.set_cons_succ, List.set_cons_zero] at ha
      subst ha
      refine MixH.takes [false, false, false, false, false, false, false, false, false, false, true, true] 3 (by kernel_rfl) (by kernel_rfl) (by decide) (by kernel_rfl) hS (fun K hK => ?_)
      simp only [Mix.pick]
      repeat (go_big_quiet_step (fail))
      refine wpQuiet_nil (hK _ ?_)
      clear hK K
      refine MixH.takes [false, false, false, false, false, false, false, false, false, false, false, false, true, true] 1 (by kernel_rfl) (by kernel_rfl) (by decide) (by kernel_rfl) hS (fun K hK => ?_)
      simp only [Mix.pick]
      repeat (go_big_quiet_step (fail))
      refine wpQuiet_nil (hK _ ?_)
      clear hK K
      refine MixH.takes [false, false, false, false, false, false, false, false, false, false, false, false, false, false, true] 0 (by kernel_rfl) (by kernel_rfl) (by decide) (by kernel_rfl) hS (fun K hK => ?_)
      simp only [Mix.pick]
      repeat (go_big_quiet_step (fail))
      refine wpQuiet_nil (hK _ ?_)
      clear hK K
      refine MixH.done (by kernel_rfl) ?_
      go_wp2
      go_roundw
      case rel => exact ⟨k + 1, by omega, by go_num, hS⟩
      case measure => simp [intOf]; omega
    · have hni : ¬ ((k : Int) < (n : Int)) := by omega
      clear hlt
      go_wp2
      go_ret
      exact ⟨rfl, hb⟩
theorem num9_any (e : Int) (w : World) : Calls Tryd.prog 13 #[.int .i64 e] w fun x w' => x = .returned (.int .i64 e) ∧ w = w' := by
  go_enter Tryd.func13, Tryd.ntmps13
  go_wp2
  go_ret
  exact ⟨rfl, rfl⟩
set_option maxHeartbeats 800000 in
set_option maxRecDepth 100000 in
theorem sameU_true (u : U9) (a b : Option Addr) (n ca cb : Nat) (w : World) (ha : DOk w u.d a n ca) (hb : DOk w u.d b n cb) :
    Calls Tryd.prog 14 #[.agg (uC u a n ca), .agg (uC u b n cb)] w fun e w' => e = .returned (.bool true) ∧ Below w.heap.size w w' := by
  have bel : Below w.heap.size w ((w.alloc (.cells (uC u a n ca) 37)).alloc (.cells (uC u b n cb) 37)) := ((Below.refl _ _).alloc (Nat.le_refl _) _).alloc (by simp) _
  have QA : Hid _ := alike_any a b n n ca cb u.d u.d _ ha.dl hb.dl (ha.seg.old bel) (hb.seg.old bel) ha.d256 hb.d256
  rw [decide_eq_true (rfl : u.d = u.d)] at QA
  clear ha hb
  obtain ⟨sp, dp, ns, d⟩ := u
  unfold uC at QA bel ⊢
  simp only at QA bel ⊢
  have n2 : (ns == ns) = true := by simp
  go_enter Tryd.func14, Tryd.ntmps14
  go_wp2_with fail
  refine Calls.mono QA.out ?_
  rintro e w1 ⟨rfl, rfl⟩
  go_wp2
  go_ret
  exact ⟨rfl, bel⟩
set_option maxHeartbeats 1600000 in
set_option maxRecDepth 100000 in
theorem sameT_true (t : T9) (la lb : Option Addr) (ln c1 c2 : Nat) (os ps : List OpV) (a b : Option Addr) (n ca cb : Nat) (w : World) (ho : OptsAt w la os) (hp : OptsAt w lb ps) (hl : os.length = ln) (hv : vals os = vals ps) (hnn : ln ≤ 1099511627776) (ha : DOk w t.d a n ca) (hb : DOk w t.d b n cb) :
    Calls Tryd.prog 15 #[.agg (tC t la ln c1 a n ca), .agg (tC t lb ln c2 b n cb)] w fun e w' => e = .returned (.bool true) ∧ Below w.heap.size w w' := by
  have bel : Below w.heap.size w ((w.alloc (.cells (tC t la ln c1 a n ca) 45)).alloc (.cells (tC t lb ln c2 b n cb) 45)) := ((Below.refl _ _).alloc (Nat.le_refl _) _).alloc (by simp) _
  have QO : Hid _ := sameOpts_true la lb ln c1 c2 os ps _ (ho.old bel) (hp.old bel) hl hv (by omega)
  have HQA : Hid (∀ W, Below w.heap.size w W → Calls Tryd.prog 28 #[.slice a n ca, .slice b n cb] W fun e w' => e = .returned (.bool true) ∧ W = w') := by
    intro W hW
    have h := alike_any a b n n ca cb t.d t.d W ha.dl hb.dl (ha.seg.old hW) (hb.seg.old hW) ha.d256 hb.d256
    rw [decide_eq_true (rfl : t.d = t.d)] at h
    exact h
  have r1 := tAt_new w t la ln c1 a n ca
  have r2 := tAt_new (w.alloc (.cells (tC t la ln c1 a n ca) 45)) t lb ln c2 b n cb
  rw [World.size_alloc] at r2
  have r1' := r1.below ((Below.refl _ _).alloc (Nat.le_refl _) (.cells (tC t lb ln c2 b n cb) 45))
  obtain ⟨M1, hM1⟩ : ∃ M1, M1 = tC t la ln c1 a n ca := ⟨_, rfl⟩
  obtain ⟨M2, hM2⟩ : ∃ M2, M2 = tC t lb ln c2 b n cb := ⟨_, rfl⟩
  rw [← hM1] at bel QO r1' r2 ⊢
  rw [← hM2] at bel QO r1' r2 ⊢
  obtain ⟨W, hW⟩ : ∃ W, W = (w.alloc (.cells M1 45)).alloc (.cells M2 45) := ⟨_, rfl⟩
  rw [← hW] at bel QO r1' r2
  have HW : Hid ((w.alloc (.cells M1 45)).alloc (.cells M2 45) = W) := hW.symm
  obtain ⟨O, hO⟩ : ∃ O, O = w.heap.size := ⟨_, rfl⟩
  rw [← hO] at r1' r2
  have HO : Hid (w.heap.size = O) := hO.symm
  have HR1 : Hid (TAt W O t la ln c1 a n ca) := r1'
  have HR2 : Hid (TAt W (O + 1) t lb ln c2 b n cb) := r2
  have a0 := HR1.out.c0
  have b0 := HR2.out.c0
  have a1 := HR1.out.c1
  have b1 := HR2.out.c1
  have a2 := HR1.out.c2
  have b2 := HR2.out.c2
  have a3 := HR1.out.c3
  have b3 := HR2.out.c3
  have a4 := HR1.out.c4
  have b4 := HR2.out.c4
  have a5 := HR1.out.c5
  have b5 := HR2.out.c5
  have a6 := HR1.out.c6
  have b6 := HR2.out.c6
  have a7 := HR1.out.c7
  have b7 := HR2.out.c7
  clear ho hp hl hv ha hb r1 r1' r2 hM1 hM2 hW hO
  go_enter Tryd.func15, Tryd.ntmps15
  go_upto_region 1 with fail
  rw [HO.out, HW.out]
  clear HW
  go_wp2_with fail
  refine Calls.mono QO.out ?_
  rintro e w1 ⟨rfl, hb1⟩
  have bel1 := bthen bel hb1
  have d8 := (HR1.out.below hb1).c8
  have e8 := (HR2.out.below hb1).c8
  have QA : Hid _ := HQA.out w1 bel1
  clear hb1 QO HQA
  go_wp2_with fail
  refine Calls.mono QA.out ?_
  rintro e w2 ⟨rfl, rfl⟩
  go_wp2
  go_ret
  exact ⟨rfl, bel1⟩
end Go.Proofs.YtfoeepbndfnifaaDoor
