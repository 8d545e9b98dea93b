/-
  The walk of L4Own: what is written is new memory, each time, and so are Clamp's options.
-/
import Derived.Test.YtldallgafpmcjaaDoorL9Own0
import Derived.Deep.DeepCutAuto
namespace Go.Proofs.YtldallgafpmcjaaDoor
open Go.RowKit
open L4 (U9 T9)
theorem F9.GS.row' {Z : World} {rv : Nat → Value} {M : Nat → Nat} {i T : Nat} {X : Nat → Nat} {F : Nat → List (Value × Nat)} {wr : World} (h : F9.GS Z rv M i X F wr) (r : F9.RW Z rv T) (hi : i < T) {a : Option Addr} {n c : Nat} (e : rv i = .slice a n c) : n ≤ 1048576 ∧ ∃ xs, wr.ownsRow 0 5 1 (.slice a n c) n xs := by
  obtain ⟨n', c', a', xs, e', hn, ho⟩ := h.row r hi
  rw [e] at e'
  simp only [Value.slice.injEq] at e'
  obtain ⟨rfl, rfl, rfl⟩ := e'
  exact ⟨hn, xs, ho⟩
theorem F9.mkF_at (i : Nat) : F9.mkF (3 + i) = 20 + i % 200 := by rw [Nat.add_comm]; rfl
theorem Tryd.infoRows9 : (Tryd.prog.info? 41).map (fun i => (i.zero, i.size, i.bytes)) = some (some (.slice none 0 0), 1, 24) := by kernel_rfl
theorem F9.oneW9 (w : World) (x : Value) (T : TypeId) : ∀ j u, ([x] : List Value)[j]? = some u → (w.alloc (.cells #[x] T)).cell? ((⟨w.heap.size, 0, none⟩ : Addr).add j) = some u := by
  intro j u hu
  rw [Addr.add_lit, Nat.zero_add, World.cell?_alloc_at _ _ _ _ rfl]
  simpa using hu
theorem chd {S : Nat → Prop} {a b c : World} (h : Ch S a b) (k : Below b.heap.size b c) : Ch S a c := h.trans (Ch.ofBelow (S := fun _ => False) k) (fun _ _ q => q.elim)
theorem mark9 (i : Nat) : IntKind.u8.wrap (20 + (i : Int) % 200) = ((20 + i % 200 : Nat) : Int) := by
  simp [IntKind.wrap, IntKind.bits, IntKind.signed]; omega
set_option maxHeartbeats 51200000 in
set_option maxRecDepth 100000 in
theorem l4Own.walk (w : World) (hT : Tabs w) (V : Int) (x : Nat → Nat) (hx : ∀ i, i < 16 → x i < 256) (U : Int) (y : Nat → Nat) (hy : ∀ i, i < 16 → y i < 256) (u : U9) (da : Option Addr) (n c : Nat) (k : DOk w u.d da n c)
    (t : T9) (la : Option Addr) (ln lc : Nat) (os : List OpV) (dt : Option Addr) (mt ct : Nat) (kt : TOk w t la ln os dt mt ct) (s : ln ≤ 1048576 ∧ (∀ o ∈ os, o.d.length ≤ 1048576) ∧ mt ≤ 1048576) (most : Int) :
    Calls Tryd.prog 3 #[.agg (ipCells V x), .agg (ipCells U y), .agg (uC u da n c), .agg (tC t la ln lc dt mt ct), .int .i64 most] w fun e w' => e = .returned (.bool true) ∧ Below w.heap.size w w' := by
  obtain ⟨A, hA⟩ : ∃ A, A = ipCells V x := ⟨_, rfl⟩
  obtain ⟨C, hC⟩ : ∃ C, C = ipCells U y := ⟨_, rfl⟩
  have hx1 := boxed_new w V x 24
  have hy1 := boxed_new (w.alloc (.cells (ipCells V x) 24)) U y 24
  rw [World.size_alloc] at hy1
  have hx2 := hx1.old ((Below.refl _ _).alloc (Nat.le_refl _) (.cells (ipCells U y) 24))
  clear hx1
  rw [← hA] at hx2 hy1 ⊢
  rw [← hC] at hx2 hy1 ⊢
  obtain ⟨M, hM⟩ : ∃ M, M = uC u da n c := ⟨_, rfl⟩
  obtain ⟨N, hN⟩ : ∃ N, N = tC t la ln lc dt mt ct := ⟨_, rfl⟩
  obtain ⟨W2, hW2⟩ : ∃ W2, W2 = (w.alloc (.cells A 24)).alloc (.cells C 24) := ⟨_, rfl⟩
  have s2 : W2.heap.size = w.heap.size + 1 + 1 := by rw [hW2]; simp
  have bel2 : Below w.heap.size w W2 := by rw [hW2]; exact ((Below.refl _ _).alloc (Nat.le_refl _) _).alloc (by simp) _
  rw [← hW2] at hx2 hy1
  have hru := uAt_new W2 u da n c
  have b3 : Below W2.heap.size W2 (W2.alloc (.cells M 27)) := (Below.refl _ _).alloc (Nat.le_refl _) _
  rw [← hM] at hru ⊢
  obtain ⟨W3, hW3⟩ : ∃ W3, W3 = W2.alloc (.cells M 27) := ⟨_, rfl⟩
  rw [← hW3] at hru b3
  have s3 : W3.heap.size = W2.heap.size + 1 := by rw [hW3]; simp
  have hrt := tAt_new W3 t la ln lc dt mt ct
  have b4 : Below W3.heap.size W3 (W3.alloc (.cells N 30)) := (Below.refl _ _).alloc (Nat.le_refl _) _
  rw [← hN] at hrt ⊢
  obtain ⟨W, hW⟩ : ∃ W, W = W3.alloc (.cells N 30) := ⟨_, rfl⟩
  rw [← hW] at hrt b4
  have bel3 := bthen bel2 b3
  have bel := bthen bel3 b4
  have HXB : Hid (Boxed W w.heap.size V x) := (hx2.old b3).old b4
  have HYB : Hid (Boxed W (w.heap.size + 1) U y) := (hy1.old b3).old b4
  obtain ⟨B, hB⟩ : ∃ B, B = w.heap.size := ⟨_, rfl⟩
  rw [← hB] at HXB HYB s2
  obtain ⟨O, hO⟩ : ∃ O, O = B + 1 + 1 := ⟨_, rfl⟩
  obtain ⟨O2, hO2⟩ : ∃ O2, O2 = O + 1 := ⟨_, rfl⟩
  rw [s2, ← hO] at hru
  rw [s3, s2, ← hO, ← hO2] at hrt
  have HRU : Hid (UAt W O u da n c) := hru.below b4
  have HRT : Hid (TAt W O2 t la ln lc dt mt ct) := hrt
  have HB : Hid (w.heap.size = B) := hB.symm
  have HO : Hid (B + 1 + 1 = O) := hO.symm
  have HO2 : Hid (O + 1 = O2) := hO2.symm
  have HW : Hid ((((w.alloc (.cells A 24)).alloc (.cells C 24)).alloc (.cells M 27)).alloc (.cells N 30) = W) := by show _ = _; rw [hW, hW3, hW2]
  have HX : Hid (∀ i, i < 16 → x i < 256) := hx
  have HY : Hid (∀ i, i < 16 → y i < 256) := hy
  clear hW hW2 hW3 hx2 hy1 hx hy hA hC hB hM hN hO hO2 hru hrt b3 b4 bel2 bel3 s2 s3
  have HK : Hid (DOk w u.d da n c) := k
  have HKT : Hid (TOk w t la ln os dt mt ct) := kt
  have HS : Hid (∀ o ∈ os, o.d.length ≤ 1048576) := s.2.1
  have hln : ln ≤ 1048576 := s.1
  have HMT : Hid (mt ≤ 1048576) := s.2.2
  have HT : Hid (∀ A, Below w.heap.size w A → Tabs A) := fun A hA => hT.old hA
  have QS : Hid _ := started_any W (HT.out W bel)
  obtain ⟨UL, hUL⟩ : ∃ UL, UL = wU9 V U x y u n := ⟨_, rfl⟩
  obtain ⟨LU, hLU⟩ : ∃ LU, LU = UL.length := ⟨_, rfl⟩
  obtain ⟨TL, hTL⟩ : ∃ TL, TL = wT9 V U x y t mt := ⟨_, rfl⟩
  obtain ⟨LT, hLT⟩ : ∃ LT, LT = TL.length := ⟨_, rfl⟩
  obtain ⟨OL, hOL⟩ : ∃ OL, OL = wO9 os := ⟨_, rfl⟩
  obtain ⟨LO, hLO⟩ : ∃ LO, LO = OL.length := ⟨_, rfl⟩
  have HU : Hid (UL.length = LU ∧ ∀ z ∈ UL, z < 256) := ⟨hLU.symm, by rw [hUL]; exact (wU9_ok V U x y k).1⟩
  have HTT : Hid (TL.length = LT ∧ ∀ z ∈ TL, z < 256) := ⟨hLT.symm, by rw [hTL]; exact (wT9_ok V U x y kt).1⟩
  have HOO : Hid (OL.length = LO ∧ ∀ z ∈ OL, z < 256) := ⟨hLO.symm, by rw [hOL]; exact (wO9_ok kt.oat).1⟩
  have l5 : LU ≤ 65535 ∧ LT ≤ 65535 ∧ LO ≤ 65535 := ⟨by rw [hLU, hUL]; exact (wU9_ok V U x y k).2, by rw [hLT, hTL]; exact (wT9_ok V U x y kt).2, by rw [hLO, hOL]; exact (wO9_ok kt.oat).2⟩
  obtain ⟨hU5, hT5, hO5⟩ := l5
  have QU : Hid (∀ A, Below w.heap.size w A → Calls Tryd.prog 7 #[.agg (ipCells V x), .agg (ipCells U y), .agg (uC u da n c)] A fun e w' => ∃ va er, e = .returned (.tuple #[.slice va LU LU, .int .i64 er]) ∧ Below A.heap.size A w' ∧ w'.ownsRow A.heap.size 5 1 (.slice va LU LU) LU ((toI UL).map (Value.int .u8))) := fun A hA => (putU_v V U x y u da n c A (HT.out A hA).u (HK.out.old hA) HX.out HY.out).mono (by
      rintro e w' ⟨v, er, rfl, hb, va, rfl, ho⟩
      rw [hLU, hUL]
      exact ⟨va, er, rfl, hb, ho⟩)
  have QT : Hid (∀ A, Below w.heap.size w A → Calls Tryd.prog 8 #[.agg (ipCells V x), .agg (ipCells U y), .agg (tC t la ln lc dt mt ct)] A fun e w' => ∃ va er, e = .returned (.tuple #[.slice va LT LT, .int .i64 er]) ∧ Below A.heap.size A w' ∧ w'.ownsRow A.heap.size 5 1 (.slice va LT LT) LT ((toI TL).map (Value.int .u8))) := fun A hA => (putT_v V U x y t la ln lc os dt mt ct A (HT.out A hA).t (HT.out A hA).l (HKT.out.old hA) HX.out HY.out).mono (by
      rintro e w' ⟨v, er, rfl, hb, va, rfl, ho⟩
      rw [hLT, hTL]
      exact ⟨va, er, rfl, hb, ho⟩)
  have QO : Hid (∀ A, Below w.heap.size w A → Calls Tryd.prog 9 #[.slice la ln lc] A fun e w' => ∃ va er, e = .returned (.tuple #[.slice va LO LO, .int .i64 er]) ∧ Below A.heap.size A w' ∧ w'.ownsRow A.heap.size 5 1 (.slice va LO LO) LO ((toI OL).map (Value.int .u8))) := fun A hA => (putO_v la ln lc os A (HT.out A hA).l HKT.out.ol (HKT.out.old hA).oat hln).mono (by
      rintro e w' ⟨v, er, rfl, hb, va, rfl, ho⟩
      rw [hLO, hOL]
      exact ⟨va, er, rfl, hb, ho⟩)
  have QCl : Hid (∀ A, Below w.heap.size w A → _) := fun A hA => clamp_any t la ln lc os dt mt ct most A HKT.out.ol (HKT.out.old hA).oat hln HS.out
  have QCU : Hid (∀ A, Below w.heap.size w A → _) := fun A hA => cloneU_any u da n c A (HK.out.old hA)
  have QCT : Hid (∀ A, Below w.heap.size w A → _) := fun A hA => cloneT_any t la ln lc os dt mt ct A HKT.out.ol (HKT.out.old hA).oat hln HS.out (HKT.out.old hA).d
  clear k kt hT s hUL hLU hTL hLT hOL hLO
  go_enter Tryd.func3, Tryd.ntmps3
  go_upto_region 1 with fail
  rw [HB.out, HO.out, HO2.out, HW.out]
  go_wp2_with fail
  refine Calls.mono QS.out ?_
  rintro e w1 ⟨rfl, hb1⟩
  have bel1 := bthen bel hb1
  have HX1 : Hid (Boxed w1 B V x) := HXB.out.old hb1
  have HY1 : Hid (Boxed w1 (B + 1) U y) := HYB.out.old hb1
  have HRU1 : Hid (UAt w1 O u da n c) := HRU.out.below hb1
  have HRT1 : Hid (TAt w1 O2 t la ln lc dt mt ct) := HRT.out.below hb1
  clear QS hb1 HXB HYB HRU HRT HW bel HB HO HO2
  go_wp2_with (first | (refine wpList_load_u9 (.tmp 7) rfl O u da n c rfl HRU1.out rfl ?_))
  refine Calls.mono (QCU.out w1 bel1) ?_
  rintro e w2 ⟨db, dc, rfl, ho2, hb2⟩
  have HWU2 : Hid (w2.ownsRow w1.heap.size 5 1 (.slice db n dc) n ((toI u.d).map (Value.int .u8))) := ho2
  have HZ2 : Hid (w1.heap.size ≤ w2.heap.size) := hb2.size
  have bel2 := bthen bel1 hb2
  have HX2 : Hid (Boxed w2 B V x) := HX1.out.old hb2
  have HY2 : Hid (Boxed w2 (B + 1) U y) := HY1.out.old hb2
  have HRU2 : Hid (UAt w2 O u da n c) := UAt.below HRU1.out hb2
  have HRT2 : Hid (TAt w2 O2 t la ln lc dt mt ct) := TAt.below HRT1.out hb2
  clear HX1 HY1 HRU1 HRT1
  have HBU : Hid (∀ q, (Value.slice db n dc).ownBlock = some q → q < w2.heap.size) := fun q hq => (ho2.lt q hq).2
  clear ho2 hb2
  have hl3 : Below w2.heap.size w2 (w2.alloc (.cells (uC u db n dc) 27)) := (Below.refl _ _).alloc (Nat.le_refl _) _
  have un3 := uAt_new w2 u db n dc
  obtain ⟨w3, hw3⟩ : ∃ w3, w3 = w2.alloc (.cells (uC u db n dc) 27) := ⟨_, rfl⟩
  rw [← hw3] at hl3 un3
  have HW3 : Hid (w2.alloc (.cells #[.int .i64 u.sp, .int .i64 u.dp, .bool u.ns, .slice db n dc] 27) = w3) := hw3.symm
  obtain ⟨OA, hOA⟩ : ∃ OA, OA = w2.heap.size := ⟨_, rfl⟩
  rw [← hOA] at un3
  have HOA3 : Hid (UAt w3 OA u db n dc) := un3
  have HVs3 : Hid (w2.heap.size = OA) := hOA.symm
  have HZ3 : Hid (w2.heap.size ≤ w3.heap.size) := hl3.size
  have bel3 := bthen bel2 hl3
  have HX3 : Hid (Boxed w3 B V x) := HX2.out.old hl3
  have HY3 : Hid (Boxed w3 (B + 1) U y) := HY2.out.old hl3
  have HRU3 : Hid (UAt w3 O u da n c) := UAt.below HRU2.out hl3
  have HRT3 : Hid (TAt w3 O2 t la ln lc dt mt ct) := TAt.below HRT2.out hl3
  have HWU3 : Hid (w3.ownsRow w1.heap.size 5 1 (.slice db n dc) n ((toI u.d).map (Value.int .u8))) := own_dn hl3 HWU2.out
  clear HX2 HY2 HRU2 HRT2 HWU2
  clear hl3 un3 hw3 hOA
  rw [show uC u db n dc = #[.int .i64 u.sp, .int .i64 u.dp, .bool u.ns, .slice db n dc] from rfl]
  go_upto_region 3 with fail
  rw [HVs3.out, HW3.out]
  clear HW3
  go_wp2_with (first | (refine wpList_load_t9 (.tmp 8) rfl O2 t la ln lc dt mt ct rfl HRT3.out rfl ?_))
  refine Calls.mono (QCT.out w3 bel3) ?_
  rintro e w4 ⟨lb1, mc1, db1, dc1, ps1, rfl, ho4, hb4, hl4, hv4, hp4, r4, s4⟩
  have HWT4 : Hid (w4.ownsRow w3.heap.size 5 1 (.slice db1 mt dc1) mt ((toI t.d).map (Value.int .u8))) := ho4
  have HPA4 : Hid (OptsAt w4 lb1 ps1) := hp4
  have HZ4 : Hid (w3.heap.size ≤ w4.heap.size) := hb4.size
  have bel4 := bthen bel3 hb4
  have HX4 : Hid (Boxed w4 B V x) := HX3.out.old hb4
  have HY4 : Hid (Boxed w4 (B + 1) U y) := HY3.out.old hb4
  have HRU4 : Hid (UAt w4 O u da n c) := UAt.below HRU3.out hb4
  have HRT4 : Hid (TAt w4 O2 t la ln lc dt mt ct) := TAt.below HRT3.out hb4
  have HWU4 : Hid (w4.ownsRow w1.heap.size 5 1 (.slice db n dc) n ((toI u.d).map (Value.int .u8))) := own_dn hb4 HWU3.out
  have HOA4 : Hid (UAt w4 OA u db n dc) := UAt.below HOA3.out hb4
  clear HX3 HY3 HRU3 HRT3 HWU3 HOA3
  have HBT : Hid (∀ q, (Value.slice db1 mt dc1).ownBlock = some q → q < w4.heap.size) := fun q hq => (ho4.lt q hq).2
  have HV1 : Hid (ps1.length = ln ∧ vals ps1 = vals os) := ⟨hl4, hv4⟩
  have HB1 : Hid ((∀ z, lb1 = some z → z.block < w4.heap.size) ∧ ∀ p ∈ ps1, ∀ z, p.a = some z → z.block < w4.heap.size) := ⟨fun z hz => (r4 z hz).2, fun p hp z hz => (s4 p hp z hz).2⟩
  clear ho4 hb4 hl4 hv4 hp4 r4 s4
  have hl5 : Below w4.heap.size w4 (w4.alloc (.cells (tC t lb1 ln mc1 db1 mt dc1) 30)) := (Below.refl _ _).alloc (Nat.le_refl _) _
  have un5 := tAt_new w4 t lb1 ln mc1 db1 mt dc1
  obtain ⟨w5, hw5⟩ : ∃ w5, w5 = w4.alloc (.cells (tC t lb1 ln mc1 db1 mt dc1) 30) := ⟨_, rfl⟩
  rw [← hw5] at hl5 un5
  have HW5 : Hid (w4.alloc (.cells #[.int .i64 t.sp, .int .i64 t.dp, .int .i64 t.sq, .int .i64 t.ak, .int .i64 t.fl, .int .i64 t.wi, .int .i64 t.ur, .slice lb1 ln mc1, .slice db1 mt dc1] 30) = w5) := hw5.symm
  obtain ⟨OB, hOB⟩ : ∃ OB, OB = w4.heap.size := ⟨_, rfl⟩
  rw [← hOB] at un5
  have HOB5 : Hid (TAt w5 OB t lb1 ln mc1 db1 mt dc1) := un5
  have HVs5 : Hid (w4.heap.size = OB) := hOB.symm
  have HZ5 : Hid (w4.heap.size ≤ w5.heap.size) := hl5.size
  have bel5 := bthen bel4 hl5
  have HX5 : Hid (Boxed w5 B V x) := HX4.out.old hl5
  have HY5 : Hid (Boxed w5 (B + 1) U y) := HY4.out.old hl5
  have HRU5 : Hid (UAt w5 O u da n c) := UAt.below HRU4.out hl5
  have HRT5 : Hid (TAt w5 O2 t la ln lc dt mt ct) := TAt.below HRT4.out hl5
  have HWU5 : Hid (w5.ownsRow w1.heap.size 5 1 (.slice db n dc) n ((toI u.d).map (Value.int .u8))) := own_dn hl5 HWU4.out
  have HOA5 : Hid (UAt w5 OA u db n dc) := UAt.below HOA4.out hl5
  have HWT5 : Hid (w5.ownsRow w3.heap.size 5 1 (.slice db1 mt dc1) mt ((toI t.d).map (Value.int .u8))) := own_dn hl5 HWT4.out
  have HPA5 : Hid (OptsAt w5 lb1 ps1) := OptsAt.old HPA4.out hl5
  clear HX4 HY4 HRU4 HRT4 HWU4 HOA4 HWT4 HPA4
  clear hl5 un5 hw5 hOB
  rw [show tC t lb1 ln mc1 db1 mt dc1 = #[.int .i64 t.sp, .int .i64 t.dp, .int .i64 t.sq, .int .i64 t.ak, .int .i64 t.fl, .int .i64 t.wi, .int .i64 t.ur, .slice lb1 ln mc1, .slice db1 mt dc1] from rfl]
  go_upto_region 4 with fail
  rw [HVs5.out, HW5.out]
  clear HW5
  have HLT : Hid (B < w5.heap.size ∧ B + 1 < w5.heap.size ∧ O < w5.heap.size ∧ O2 < w5.heap.size ∧ OA < w5.heap.size ∧ OB < w5.heap.size ∧ w.heap.size ≤ w5.heap.size ∧ w2.heap.size ≤ w5.heap.size ∧ w4.heap.size ≤ w5.heap.size) := ⟨World.block_lt_of_cell? w5 _ HX5.out.ver, World.block_lt_of_cell? w5 _ HY5.out.ver, HRU5.out.lt, HRT5.out.lt, HOA5.out.lt, HOB5.out.lt, bel5.size, Nat.le_trans HZ3.out (Nat.le_trans HZ4.out HZ5.out), HZ5.out⟩
  go_wp2_with (first | (refine wpList_load_ip (.tmp 5) rfl B V x rfl HX5.out rfl ?_) | (refine wpList_load_ip (.tmp 6) rfl (B + 1) U y rfl HY5.out rfl ?_) | (refine wpList_load_u9 (.tmp 7) rfl O u da n c rfl HRU5.out rfl ?_))
  refine Calls.mono (QU.out w5 bel5) ?_
  rintro e w6 ⟨va, er1, rfl, hb6, ho6⟩
  have HRa6 : Hid (w6.ownsRow w5.heap.size 5 1 (.slice va LU LU) LU ((toI UL).map (Value.int .u8))) := ho6
  have HZ6 : Hid (w5.heap.size ≤ w6.heap.size) := hb6.size
  have bel6 := bthen bel5 hb6
  have HX6 : Hid (Boxed w6 B V x) := HX5.out.old hb6
  have HY6 : Hid (Boxed w6 (B + 1) U y) := HY5.out.old hb6
  have HRU6 : Hid (UAt w6 O u da n c) := UAt.below HRU5.out hb6
  have HRT6 : Hid (TAt w6 O2 t la ln lc dt mt ct) := TAt.below HRT5.out hb6
  have HWU6 : Hid (w6.ownsRow w1.heap.size 5 1 (.slice db n dc) n ((toI u.d).map (Value.int .u8))) := own_dn hb6 HWU5.out
  have HOA6 : Hid (UAt w6 OA u db n dc) := UAt.below HOA5.out hb6
  have HWT6 : Hid (w6.ownsRow w3.heap.size 5 1 (.slice db1 mt dc1) mt ((toI t.d).map (Value.int .u8))) := own_dn hb6 HWT5.out
  have HPA6 : Hid (OptsAt w6 lb1 ps1) := OptsAt.old HPA5.out hb6
  have HOB6 : Hid (TAt w6 OB t lb1 ln mc1 db1 mt dc1) := TAt.below HOB5.out hb6
  clear HX5 HY5 HRU5 HRT5 HWU5 HOA5 HWT5 HPA5 HOB5
  have LTa : Hid (∀ z, va = some z → z.block < w6.heap.size) := fun z hz => (ho6.lt z.block (by rw [hz]; rfl)).2
  clear ho6 hb6
  go_wp2_with (first | (refine wpList_load_ip (.tmp 5) rfl B V x rfl HX6.out rfl ?_) | (refine wpList_load_ip (.tmp 6) rfl (B + 1) U y rfl HY6.out rfl ?_) | (refine wpList_load_t9 (.tmp 8) rfl O2 t la ln lc dt mt ct rfl HRT6.out rfl ?_))
  refine Calls.mono (QT.out w6 bel6) ?_
  rintro e w7 ⟨vb, er2, rfl, hb7, ho7⟩
  have HRb7 : Hid (w7.ownsRow w6.heap.size 5 1 (.slice vb LT LT) LT ((toI TL).map (Value.int .u8))) := ho7
  have HZ7 : Hid (w6.heap.size ≤ w7.heap.size) := hb7.size
  have bel7 := bthen bel6 hb7
  have HX7 : Hid (Boxed w7 B V x) := HX6.out.old hb7
  have HY7 : Hid (Boxed w7 (B + 1) U y) := HY6.out.old hb7
  have HRU7 : Hid (UAt w7 O u da n c) := UAt.below HRU6.out hb7
  have HRT7 : Hid (TAt w7 O2 t la ln lc dt mt ct) := TAt.below HRT6.out hb7
  have HWU7 : Hid (w7.ownsRow w1.heap.size 5 1 (.slice db n dc) n ((toI u.d).map (Value.int .u8))) := own_dn hb7 HWU6.out
  have HOA7 : Hid (UAt w7 OA u db n dc) := UAt.below HOA6.out hb7
  have HWT7 : Hid (w7.ownsRow w3.heap.size 5 1 (.slice db1 mt dc1) mt ((toI t.d).map (Value.int .u8))) := own_dn hb7 HWT6.out
  have HPA7 : Hid (OptsAt w7 lb1 ps1) := OptsAt.old HPA6.out hb7
  have HOB7 : Hid (TAt w7 OB t lb1 ln mc1 db1 mt dc1) := TAt.below HOB6.out hb7
  have HRa7 : Hid (w7.ownsRow w5.heap.size 5 1 (.slice va LU LU) LU ((toI UL).map (Value.int .u8))) := own_dn hb7 HRa6.out
  clear HX6 HY6 HRU6 HRT6 HWU6 HOA6 HWT6 HPA6 HOB6 HRa6
  have LTb : Hid (∀ z, vb = some z → z.block < w7.heap.size) := fun z hz => (ho7.lt z.block (by rw [hz]; rfl)).2
  clear ho7 hb7
  have c7 := HRT7.out.c7
  go_wp2_with fail
  refine Calls.mono (QO.out w7 bel7) ?_
  rintro e w8 ⟨vc, er3, rfl, hb8, ho8⟩
  have HRc8 : Hid (w8.ownsRow w7.heap.size 5 1 (.slice vc LO LO) LO ((toI OL).map (Value.int .u8))) := ho8
  have HZ8 : Hid (w7.heap.size ≤ w8.heap.size) := hb8.size
  have bel8 := bthen bel7 hb8
  have HX8 : Hid (Boxed w8 B V x) := HX7.out.old hb8
  have HY8 : Hid (Boxed w8 (B + 1) U y) := HY7.out.old hb8
  have HRU8 : Hid (UAt w8 O u da n c) := UAt.below HRU7.out hb8
  have HRT8 : Hid (TAt w8 O2 t la ln lc dt mt ct) := TAt.below HRT7.out hb8
  have HWU8 : Hid (w8.ownsRow w1.heap.size 5 1 (.slice db n dc) n ((toI u.d).map (Value.int .u8))) := own_dn hb8 HWU7.out
  have HOA8 : Hid (UAt w8 OA u db n dc) := UAt.below HOA7.out hb8
  have HWT8 : Hid (w8.ownsRow w3.heap.size 5 1 (.slice db1 mt dc1) mt ((toI t.d).map (Value.int .u8))) := own_dn hb8 HWT7.out
  have HPA8 : Hid (OptsAt w8 lb1 ps1) := OptsAt.old HPA7.out hb8
  have HOB8 : Hid (TAt w8 OB t lb1 ln mc1 db1 mt dc1) := TAt.below HOB7.out hb8
  have HRa8 : Hid (w8.ownsRow w5.heap.size 5 1 (.slice va LU LU) LU ((toI UL).map (Value.int .u8))) := own_dn hb8 HRa7.out
  have HRb8 : Hid (w8.ownsRow w6.heap.size 5 1 (.slice vb LT LT) LT ((toI TL).map (Value.int .u8))) := own_dn hb8 HRb7.out
  clear HX7 HY7 HRU7 HRT7 HWU7 HOA7 HWT7 HPA7 HOB7 HRa7 HRb7
  have LTc : Hid (∀ z, vc = some z → z.block < w8.heap.size) := fun z hz => (ho8.lt z.block (by rw [hz]; rfl)).2
  clear ho8 hb8 c7
  go_wp2_with (first | (refine wpList_load_t9 (.tmp 8) rfl O2 t la ln lc dt mt ct rfl HRT8.out rfl ?_))
  refine Calls.mono (QCl.out w8 bel8) ?_
  rintro e w9 ⟨G, ps, rfl, hcl⟩
  have hb9 := hcl.bel
  have HCL9 : Hid (ClS w8 os (synB t.fl) most.toNat G ln ps w9) := hcl
  have HZ9 : Hid (w8.heap.size ≤ w9.heap.size) := hb9.size
  have bel9 := bthen bel8 hb9
  have HX9 : Hid (Boxed w9 B V x) := HX8.out.old hb9
  have HY9 : Hid (Boxed w9 (B + 1) U y) := HY8.out.old hb9
  have HRU9 : Hid (UAt w9 O u da n c) := UAt.below HRU8.out hb9
  have HRT9 : Hid (TAt w9 O2 t la ln lc dt mt ct) := TAt.below HRT8.out hb9
  have HWU9 : Hid (w9.ownsRow w1.heap.size 5 1 (.slice db n dc) n ((toI u.d).map (Value.int .u8))) := own_dn hb9 HWU8.out
  have HOA9 : Hid (UAt w9 OA u db n dc) := UAt.below HOA8.out hb9
  have HWT9 : Hid (w9.ownsRow w3.heap.size 5 1 (.slice db1 mt dc1) mt ((toI t.d).map (Value.int .u8))) := own_dn hb9 HWT8.out
  have HPA9 : Hid (OptsAt w9 lb1 ps1) := OptsAt.old HPA8.out hb9
  have HOB9 : Hid (TAt w9 OB t lb1 ln mc1 db1 mt dc1) := TAt.below HOB8.out hb9
  have HRa9 : Hid (w9.ownsRow w5.heap.size 5 1 (.slice va LU LU) LU ((toI UL).map (Value.int .u8))) := own_dn hb9 HRa8.out
  have HRb9 : Hid (w9.ownsRow w6.heap.size 5 1 (.slice vb LT LT) LT ((toI TL).map (Value.int .u8))) := own_dn hb9 HRb8.out
  have HRc9 : Hid (w9.ownsRow w7.heap.size 5 1 (.slice vc LO LO) LO ((toI OL).map (Value.int .u8))) := own_dn hb9 HRc8.out
  clear HX8 HY8 HRU8 HRT8 HWU8 HOA8 HWT8 HPA8 HOB8 HRa8 HRb8 HRc8
  have HPS : Hid (∀ o ∈ ps, o.d.length ≤ 1048576) := hcl.small' HKT.out.ol HS.out
  have HPV : Hid (vals ps = (vals os).map (L4.clO (synB t.fl) most.toNat) ∧ ps.length = ln) := ⟨hcl.all' HKT.out.ol, hcl.pl⟩
  have HP9 : Hid ((∀ p ∈ ps, ∀ z, p.a = some z → G < z.block ∧ z.block < w9.heap.size) ∧ w8.heap.size ≤ G ∧ G < w9.heap.size) := ⟨fun p hp z hz => ⟨(hcl.new p hp z hz).2, hcl.lt p hp z hz⟩, hcl.gw, hcl.gl⟩
  clear hcl hb9
  have hl10 : Below w9.heap.size w9 (w9.alloc (.cells (tC t (some ⟨G, 0, none⟩) ln ln dt mt ct) 30)) := (Below.refl _ _).alloc (Nat.le_refl _) _
  have un10 := tAt_new w9 t (some ⟨G, 0, none⟩) ln ln dt mt ct
  obtain ⟨w10, hw10⟩ : ∃ w10, w10 = w9.alloc (.cells (tC t (some ⟨G, 0, none⟩) ln ln dt mt ct) 30) := ⟨_, rfl⟩
  rw [← hw10] at hl10 un10
  have HW10 : Hid (w9.alloc (.cells #[.int .i64 t.sp, .int .i64 t.dp, .int .i64 t.sq, .int .i64 t.ak, .int .i64 t.fl, .int .i64 t.wi, .int .i64 t.ur, .slice (some ⟨G, 0, none⟩) ln ln, .slice dt mt ct] 30) = w10) := hw10.symm
  obtain ⟨OK, hOK⟩ : ∃ OK, OK = w9.heap.size := ⟨_, rfl⟩
  rw [← hOK] at un10
  have HOK10 : Hid (TAt w10 OK t (some ⟨G, 0, none⟩) ln ln dt mt ct) := un10
  have HVs10 : Hid (w9.heap.size = OK) := hOK.symm
  have HZ10 : Hid (w9.heap.size ≤ w10.heap.size) := hl10.size
  have bel10 := bthen bel9 hl10
  have HX10 : Hid (Boxed w10 B V x) := HX9.out.old hl10
  have HY10 : Hid (Boxed w10 (B + 1) U y) := HY9.out.old hl10
  have HRU10 : Hid (UAt w10 O u da n c) := UAt.below HRU9.out hl10
  have HRT10 : Hid (TAt w10 O2 t la ln lc dt mt ct) := TAt.below HRT9.out hl10
  have HWU10 : Hid (w10.ownsRow w1.heap.size 5 1 (.slice db n dc) n ((toI u.d).map (Value.int .u8))) := own_dn hl10 HWU9.out
  have HOA10 : Hid (UAt w10 OA u db n dc) := UAt.below HOA9.out hl10
  have HWT10 : Hid (w10.ownsRow w3.heap.size 5 1 (.slice db1 mt dc1) mt ((toI t.d).map (Value.int .u8))) := own_dn hl10 HWT9.out
  have HPA10 : Hid (OptsAt w10 lb1 ps1) := OptsAt.old HPA9.out hl10
  have HOB10 : Hid (TAt w10 OB t lb1 ln mc1 db1 mt dc1) := TAt.below HOB9.out hl10
  have HRa10 : Hid (w10.ownsRow w5.heap.size 5 1 (.slice va LU LU) LU ((toI UL).map (Value.int .u8))) := own_dn hl10 HRa9.out
  have HRb10 : Hid (w10.ownsRow w6.heap.size 5 1 (.slice vb LT LT) LT ((toI TL).map (Value.int .u8))) := own_dn hl10 HRb9.out
  have HRc10 : Hid (w10.ownsRow w7.heap.size 5 1 (.slice vc LO LO) LO ((toI OL).map (Value.int .u8))) := own_dn hl10 HRc9.out
  have HCL10 : Hid (ClS w8 os (synB t.fl) most.toNat G ln ps w10) := ClS.below HCL9.out hl10
  clear HX9 HY9 HRU9 HRT9 HWU9 HOA9 HWT9 HPA9 HOB9 HRa9 HRb9 HRc9 HCL9
  clear hl10 un10 hw10 hOK
  rw [show tC t (some ⟨G, 0, none⟩) ln ln dt mt ct = #[.int .i64 t.sp, .int .i64 t.dp, .int .i64 t.sq, .int .i64 t.ak, .int .i64 t.fl, .int .i64 t.wi, .int .i64 t.ur, .slice (some ⟨G, 0, none⟩) ln ln, .slice dt mt ct] from rfl]
  go_upto_region 8 with fail
  rw [HVs10.out, HW10.out]
  clear HW10
  have QC : Hid _ := copied_any va LU LU UL w10 HU.out.1 (owns_seg_at HRa10.out).1 (by omega)
  go_wp2_with fail
  refine Calls.mono (QC.out) ?_
  rintro e w11 ⟨vv, rfl, ho11, hb11⟩
  obtain ⟨xa, xac, rfl⟩ := owns_shape ho11
  have HTA11 : Hid (w11.ownsRow w10.heap.size 5 1 (.slice xa LU xac) LU ((toI UL).map (Value.int .u8))) := ho11
  have HZ11 : Hid (w10.heap.size ≤ w11.heap.size) := hb11.size
  have bel11 := bthen bel10 hb11
  have HX11 : Hid (Boxed w11 B V x) := HX10.out.old hb11
  have HY11 : Hid (Boxed w11 (B + 1) U y) := HY10.out.old hb11
  have HRU11 : Hid (UAt w11 O u da n c) := UAt.below HRU10.out hb11
  have HRT11 : Hid (TAt w11 O2 t la ln lc dt mt ct) := TAt.below HRT10.out hb11
  have HWU11 : Hid (w11.ownsRow w1.heap.size 5 1 (.slice db n dc) n ((toI u.d).map (Value.int .u8))) := own_dn hb11 HWU10.out
  have HOA11 : Hid (UAt w11 OA u db n dc) := UAt.below HOA10.out hb11
  have HWT11 : Hid (w11.ownsRow w3.heap.size 5 1 (.slice db1 mt dc1) mt ((toI t.d).map (Value.int .u8))) := own_dn hb11 HWT10.out
  have HPA11 : Hid (OptsAt w11 lb1 ps1) := OptsAt.old HPA10.out hb11
  have HOB11 : Hid (TAt w11 OB t lb1 ln mc1 db1 mt dc1) := TAt.below HOB10.out hb11
  have HRa11 : Hid (w11.ownsRow w5.heap.size 5 1 (.slice va LU LU) LU ((toI UL).map (Value.int .u8))) := own_dn hb11 HRa10.out
  have HRb11 : Hid (w11.ownsRow w6.heap.size 5 1 (.slice vb LT LT) LT ((toI TL).map (Value.int .u8))) := own_dn hb11 HRb10.out
  have HRc11 : Hid (w11.ownsRow w7.heap.size 5 1 (.slice vc LO LO) LO ((toI OL).map (Value.int .u8))) := own_dn hb11 HRc10.out
  have HCL11 : Hid (ClS w8 os (synB t.fl) most.toNat G ln ps w11) := ClS.below HCL10.out hb11
  have HOK11 : Hid (TAt w11 OK t (some ⟨G, 0, none⟩) ln ln dt mt ct) := TAt.below HOK10.out hb11
  clear HX10 HY10 HRU10 HRT10 HWU10 HOA10 HWT10 HPA10 HOB10 HRa10 HRb10 HRc10 HCL10 HOK10
  clear ho11 hb11 QC
  have QC : Hid _ := copied_any vb LT LT TL w11 HTT.out.1 (owns_seg_at HRb11.out).1 (by omega)
  go_wp2_with fail
  refine Calls.mono (QC.out) ?_
  rintro e w12 ⟨vv, rfl, ho12, hb12⟩
  obtain ⟨xb, xbc, rfl⟩ := owns_shape ho12
  have HTB12 : Hid (w12.ownsRow w11.heap.size 5 1 (.slice xb LT xbc) LT ((toI TL).map (Value.int .u8))) := ho12
  have HZ12 : Hid (w11.heap.size ≤ w12.heap.size) := hb12.size
  have bel12 := bthen bel11 hb12
  have HX12 : Hid (Boxed w12 B V x) := HX11.out.old hb12
  have HY12 : Hid (Boxed w12 (B + 1) U y) := HY11.out.old hb12
  have HRU12 : Hid (UAt w12 O u da n c) := UAt.below HRU11.out hb12
  have HRT12 : Hid (TAt w12 O2 t la ln lc dt mt ct) := TAt.below HRT11.out hb12
  have HWU12 : Hid (w12.ownsRow w1.heap.size 5 1 (.slice db n dc) n ((toI u.d).map (Value.int .u8))) := own_dn hb12 HWU11.out
  have HOA12 : Hid (UAt w12 OA u db n dc) := UAt.below HOA11.out hb12
  have HWT12 : Hid (w12.ownsRow w3.heap.size 5 1 (.slice db1 mt dc1) mt ((toI t.d).map (Value.int .u8))) := own_dn hb12 HWT11.out
  have HPA12 : Hid (OptsAt w12 lb1 ps1) := OptsAt.old HPA11.out hb12
  have HOB12 : Hid (TAt w12 OB t lb1 ln mc1 db1 mt dc1) := TAt.below HOB11.out hb12
  have HRa12 : Hid (w12.ownsRow w5.heap.size 5 1 (.slice va LU LU) LU ((toI UL).map (Value.int .u8))) := own_dn hb12 HRa11.out
  have HRb12 : Hid (w12.ownsRow w6.heap.size 5 1 (.slice vb LT LT) LT ((toI TL).map (Value.int .u8))) := own_dn hb12 HRb11.out
  have HRc12 : Hid (w12.ownsRow w7.heap.size 5 1 (.slice vc LO LO) LO ((toI OL).map (Value.int .u8))) := own_dn hb12 HRc11.out
  have HCL12 : Hid (ClS w8 os (synB t.fl) most.toNat G ln ps w12) := ClS.below HCL11.out hb12
  have HOK12 : Hid (TAt w12 OK t (some ⟨G, 0, none⟩) ln ln dt mt ct) := TAt.below HOK11.out hb12
  have HTA12 : Hid (w12.ownsRow w10.heap.size 5 1 (.slice xa LU xac) LU ((toI UL).map (Value.int .u8))) := own_dn hb12 HTA11.out
  clear HX11 HY11 HRU11 HRT11 HWU11 HOA11 HWT11 HPA11 HOB11 HRa11 HRb11 HRc11 HCL11 HOK11 HTA11
  clear ho12 hb12 QC
  have QC : Hid _ := copied_any vc LO LO OL w12 HOO.out.1 (owns_seg_at HRc12.out).1 (by omega)
  go_wp2_with fail
  refine Calls.mono (QC.out) ?_
  rintro e w13 ⟨vv, rfl, ho13, hb13⟩
  obtain ⟨xc, xcc, rfl⟩ := owns_shape ho13
  have HTC13 : Hid (w13.ownsRow w12.heap.size 5 1 (.slice xc LO xcc) LO ((toI OL).map (Value.int .u8))) := ho13
  have HZ13 : Hid (w12.heap.size ≤ w13.heap.size) := hb13.size
  have bel13 := bthen bel12 hb13
  have HX13 : Hid (Boxed w13 B V x) := HX12.out.old hb13
  have HY13 : Hid (Boxed w13 (B + 1) U y) := HY12.out.old hb13
  have HRU13 : Hid (UAt w13 O u da n c) := UAt.below HRU12.out hb13
  have HRT13 : Hid (TAt w13 O2 t la ln lc dt mt ct) := TAt.below HRT12.out hb13
  have HWU13 : Hid (w13.ownsRow w1.heap.size 5 1 (.slice db n dc) n ((toI u.d).map (Value.int .u8))) := own_dn hb13 HWU12.out
  have HOA13 : Hid (UAt w13 OA u db n dc) := UAt.below HOA12.out hb13
  have HWT13 : Hid (w13.ownsRow w3.heap.size 5 1 (.slice db1 mt dc1) mt ((toI t.d).map (Value.int .u8))) := own_dn hb13 HWT12.out
  have HPA13 : Hid (OptsAt w13 lb1 ps1) := OptsAt.old HPA12.out hb13
  have HOB13 : Hid (TAt w13 OB t lb1 ln mc1 db1 mt dc1) := TAt.below HOB12.out hb13
  have HRa13 : Hid (w13.ownsRow w5.heap.size 5 1 (.slice va LU LU) LU ((toI UL).map (Value.int .u8))) := own_dn hb13 HRa12.out
  have HRb13 : Hid (w13.ownsRow w6.heap.size 5 1 (.slice vb LT LT) LT ((toI TL).map (Value.int .u8))) := own_dn hb13 HRb12.out
  have HRc13 : Hid (w13.ownsRow w7.heap.size 5 1 (.slice vc LO LO) LO ((toI OL).map (Value.int .u8))) := own_dn hb13 HRc12.out
  have HCL13 : Hid (ClS w8 os (synB t.fl) most.toNat G ln ps w13) := ClS.below HCL12.out hb13
  have HOK13 : Hid (TAt w13 OK t (some ⟨G, 0, none⟩) ln ln dt mt ct) := TAt.below HOK12.out hb13
  have HTA13 : Hid (w13.ownsRow w10.heap.size 5 1 (.slice xa LU xac) LU ((toI UL).map (Value.int .u8))) := own_dn hb13 HTA12.out
  have HTB13 : Hid (w13.ownsRow w11.heap.size 5 1 (.slice xb LT xbc) LT ((toI TL).map (Value.int .u8))) := own_dn hb13 HTB12.out
  clear HX12 HY12 HRU12 HRT12 HWU12 HOA12 HWT12 HPA12 HOB12 HRa12 HRb12 HRc12 HCL12 HOK12 HTA12 HTB12
  clear ho13 hb13 QC
  have QC : Hid _ := cloneT_any t (some ⟨G, 0, none⟩) ln ln ps dt mt ct w13 HPV.out.2 HCL13.out.opts hln HPS.out (HKT.out.old bel13).d
  go_wp2_with (first | (refine wpList_load_t9 (.tmp 20) rfl OK t (some ⟨G, 0, none⟩) ln ln dt mt ct rfl HOK13.out rfl ?_))
  refine Calls.mono (QC.out) ?_
  rintro e w14 ⟨lb2, mc2, db2, dc2, ps2, rfl, ho14, hb14, hl14, hv14, hp14, r14, s14⟩
  have HWK14 : Hid (w14.ownsRow w13.heap.size 5 1 (.slice db2 mt dc2) mt ((toI t.d).map (Value.int .u8))) := ho14
  have HPB14 : Hid (OptsAt w14 lb2 ps2) := hp14
  have HZ14 : Hid (w13.heap.size ≤ w14.heap.size) := hb14.size
  have bel14 := bthen bel13 hb14
  have HX14 : Hid (Boxed w14 B V x) := HX13.out.old hb14
  have HY14 : Hid (Boxed w14 (B + 1) U y) := HY13.out.old hb14
  have HRU14 : Hid (UAt w14 O u da n c) := UAt.below HRU13.out hb14
  have HRT14 : Hid (TAt w14 O2 t la ln lc dt mt ct) := TAt.below HRT13.out hb14
  have HWU14 : Hid (w14.ownsRow w1.heap.size 5 1 (.slice db n dc) n ((toI u.d).map (Value.int .u8))) := own_dn hb14 HWU13.out
  have HOA14 : Hid (UAt w14 OA u db n dc) := UAt.below HOA13.out hb14
  have HWT14 : Hid (w14.ownsRow w3.heap.size 5 1 (.slice db1 mt dc1) mt ((toI t.d).map (Value.int .u8))) := own_dn hb14 HWT13.out
  have HPA14 : Hid (OptsAt w14 lb1 ps1) := OptsAt.old HPA13.out hb14
  have HOB14 : Hid (TAt w14 OB t lb1 ln mc1 db1 mt dc1) := TAt.below HOB13.out hb14
  have HRa14 : Hid (w14.ownsRow w5.heap.size 5 1 (.slice va LU LU) LU ((toI UL).map (Value.int .u8))) := own_dn hb14 HRa13.out
  have HRb14 : Hid (w14.ownsRow w6.heap.size 5 1 (.slice vb LT LT) LT ((toI TL).map (Value.int .u8))) := own_dn hb14 HRb13.out
  have HRc14 : Hid (w14.ownsRow w7.heap.size 5 1 (.slice vc LO LO) LO ((toI OL).map (Value.int .u8))) := own_dn hb14 HRc13.out
  have HCL14 : Hid (ClS w8 os (synB t.fl) most.toNat G ln ps w14) := ClS.below HCL13.out hb14
  have HOK14 : Hid (TAt w14 OK t (some ⟨G, 0, none⟩) ln ln dt mt ct) := TAt.below HOK13.out hb14
  have HTA14 : Hid (w14.ownsRow w10.heap.size 5 1 (.slice xa LU xac) LU ((toI UL).map (Value.int .u8))) := own_dn hb14 HTA13.out
  have HTB14 : Hid (w14.ownsRow w11.heap.size 5 1 (.slice xb LT xbc) LT ((toI TL).map (Value.int .u8))) := own_dn hb14 HTB13.out
  have HTC14 : Hid (w14.ownsRow w12.heap.size 5 1 (.slice xc LO xcc) LO ((toI OL).map (Value.int .u8))) := own_dn hb14 HTC13.out
  clear HX13 HY13 HRU13 HRT13 HWU13 HOA13 HWT13 HPA13 HOB13 HRa13 HRb13 HRc13 HCL13 HOK13 HTA13 HTB13 HTC13
  have HV2 : Hid (ps2.length = ln ∧ vals ps2 = vals ps) := ⟨hl14, hv14⟩
  have HB2 : Hid ((∀ z, lb2 = some z → w13.heap.size ≤ z.block) ∧ ∀ p ∈ ps2, ∀ z, p.a = some z → w13.heap.size ≤ z.block) := ⟨fun z hz => (r14 z hz).1, fun p hp z hz => (s14 p hp z hz).1⟩
  clear ho14 hb14 hl14 hv14 hp14 r14 s14 QC
  have hl15 : Below w14.heap.size w14 (w14.alloc (.cells (tC t lb2 ln mc2 db2 mt dc2) 30)) := (Below.refl _ _).alloc (Nat.le_refl _) _
  have un15 := tAt_new w14 t lb2 ln mc2 db2 mt dc2
  obtain ⟨w15, hw15⟩ : ∃ w15, w15 = w14.alloc (.cells (tC t lb2 ln mc2 db2 mt dc2) 30) := ⟨_, rfl⟩
  rw [← hw15] at hl15 un15
  have HW15 : Hid (w14.alloc (.cells #[.int .i64 t.sp, .int .i64 t.dp, .int .i64 t.sq, .int .i64 t.ak, .int .i64 t.fl, .int .i64 t.wi, .int .i64 t.ur, .slice lb2 ln mc2, .slice db2 mt dc2] 30) = w15) := hw15.symm
  obtain ⟨OC, hOC⟩ : ∃ OC, OC = w14.heap.size := ⟨_, rfl⟩
  rw [← hOC] at un15
  have HOC15 : Hid (TAt w15 OC t lb2 ln mc2 db2 mt dc2) := un15
  have HVs15 : Hid (w14.heap.size = OC) := hOC.symm
  have HZ15 : Hid (w14.heap.size ≤ w15.heap.size) := hl15.size
  have bel15 := bthen bel14 hl15
  have HX15 : Hid (Boxed w15 B V x) := HX14.out.old hl15
  have HY15 : Hid (Boxed w15 (B + 1) U y) := HY14.out.old hl15
  have HRU15 : Hid (UAt w15 O u da n c) := UAt.below HRU14.out hl15
  have HRT15 : Hid (TAt w15 O2 t la ln lc dt mt ct) := TAt.below HRT14.out hl15
  have HWU15 : Hid (w15.ownsRow w1.heap.size 5 1 (.slice db n dc) n ((toI u.d).map (Value.int .u8))) := own_dn hl15 HWU14.out
  have HOA15 : Hid (UAt w15 OA u db n dc) := UAt.below HOA14.out hl15
  have HWT15 : Hid (w15.ownsRow w3.heap.size 5 1 (.slice db1 mt dc1) mt ((toI t.d).map (Value.int .u8))) := own_dn hl15 HWT14.out
  have HPA15 : Hid (OptsAt w15 lb1 ps1) := OptsAt.old HPA14.out hl15
  have HOB15 : Hid (TAt w15 OB t lb1 ln mc1 db1 mt dc1) := TAt.below HOB14.out hl15
  have HRa15 : Hid (w15.ownsRow w5.heap.size 5 1 (.slice va LU LU) LU ((toI UL).map (Value.int .u8))) := own_dn hl15 HRa14.out
  have HRb15 : Hid (w15.ownsRow w6.heap.size 5 1 (.slice vb LT LT) LT ((toI TL).map (Value.int .u8))) := own_dn hl15 HRb14.out
  have HRc15 : Hid (w15.ownsRow w7.heap.size 5 1 (.slice vc LO LO) LO ((toI OL).map (Value.int .u8))) := own_dn hl15 HRc14.out
  have HCL15 : Hid (ClS w8 os (synB t.fl) most.toNat G ln ps w15) := ClS.below HCL14.out hl15
  have HOK15 : Hid (TAt w15 OK t (some ⟨G, 0, none⟩) ln ln dt mt ct) := TAt.below HOK14.out hl15
  have HTA15 : Hid (w15.ownsRow w10.heap.size 5 1 (.slice xa LU xac) LU ((toI UL).map (Value.int .u8))) := own_dn hl15 HTA14.out
  have HTB15 : Hid (w15.ownsRow w11.heap.size 5 1 (.slice xb LT xbc) LT ((toI TL).map (Value.int .u8))) := own_dn hl15 HTB14.out
  have HTC15 : Hid (w15.ownsRow w12.heap.size 5 1 (.slice xc LO xcc) LO ((toI OL).map (Value.int .u8))) := own_dn hl15 HTC14.out
  have HWK15 : Hid (w15.ownsRow w13.heap.size 5 1 (.slice db2 mt dc2) mt ((toI t.d).map (Value.int .u8))) := own_dn hl15 HWK14.out
  have HPB15 : Hid (OptsAt w15 lb2 ps2) := OptsAt.old HPB14.out hl15
  clear HX14 HY14 HRU14 HRT14 HWU14 HOA14 HWT14 HPA14 HOB14 HRa14 HRb14 HRc14 HCL14 HOK14 HTA14 HTB14 HTC14 HWK14 HPB14
  clear hl15 un15 hw15 hOC
  rw [show tC t lb2 ln mc2 db2 mt dc2 = #[.int .i64 t.sp, .int .i64 t.dp, .int .i64 t.sq, .int .i64 t.ak, .int .i64 t.fl, .int .i64 t.wi, .int .i64 t.ur, .slice lb2 ln mc2, .slice db2 mt dc2] from rfl]
  go_upto_region 12 with fail
  rw [HVs15.out, HW15.out]
  clear HW15
  have HSZ : Hid (w5.heap.size ≤ w6.heap.size ∧ w6.heap.size ≤ w7.heap.size ∧ w7.heap.size ≤ w8.heap.size ∧ w9.heap.size ≤ w10.heap.size ∧ w10.heap.size ≤ w11.heap.size ∧ w11.heap.size ≤ w12.heap.size ∧ w12.heap.size ≤ w13.heap.size ∧ w13.heap.size ≤ w14.heap.size ∧ w9.heap.size = OK ∧ w14.heap.size = OC) := ⟨HZ6.out, HZ7.out, HZ8.out, HZ10.out, HZ11.out, HZ12.out, HZ13.out, HZ14.out, HVs10.out, HVs15.out⟩
  have hrw := F9.rw_of (Z := w15) HSZ.out.1 HSZ.out.2.1 HSZ.out.2.2.1 HP9.out.2.1 HP9.out.2.2 HRa15.out LTa.out hU5 HRb15.out LTb.out hT5 HRc15.out LTc.out hO5 HCL15.out.own HP9.out.1 HPS.out HCL15.out.dis HPV.out.2
  obtain ⟨rv, hrv⟩ : ∃ rv, rv = F9.rvF (.slice va LU LU) (.slice vb LT LT) (.slice vc LO LO) ps := ⟨_, rfl⟩
  rw [← hrv] at hrw
  have HRW : Hid (F9.RW w15 rv (3 + ln)) := hrw.1
  have HRG : Hid (∀ j, j < 3 + ln → ∀ q, (rv j).ownBlock = some q → (w5.heap.size ≤ q ∧ q < w9.heap.size) ∧ q ≠ G) := hrw.2
  have HRV : Hid (rv 0 = .slice va LU LU ∧ rv 1 = .slice vb LT LT ∧ rv 2 = .slice vc LO LO ∧ ∀ k p, ps[k]? = some p → rv (3 + k) = .slice p.a p.d.length p.c) := by
    rw [hrv]
    exact ⟨rfl, rfl, rfl, fun k p h => by rw [Nat.add_comm]; exact F9.pV_at h⟩
  have HMS : Hid (∀ (i : Nat) (X : Nat → Nat) (F : Nat → List (Value × Nat)) (A : World), i ≤ 3 + ln → F9.GS w15 rv F9.mkF i X F A → Ch (fun q => w5.heap.size ≤ q ∧ q < w9.heap.size) w15 A) := fun i X F A hi h => h.ch.mono (fun q _ ⟨j, hj, e⟩ => (HRG.out j (by omega) q e).1)
  have KB : Hid (∀ A, Ch (fun q => w5.heap.size ≤ q ∧ q < w9.heap.size) w15 A → Below w.heap.size w A) := fun A hA => bel15.trans (hA.below (fun q h => Nat.le_trans HLT.out.2.2.2.2.2.2.1 h.1) bel15.size)
  have KX : Hid (∀ A, Ch (fun q => w5.heap.size ≤ q ∧ q < w9.heap.size) w15 A → Boxed A B V x) := fun A hA => boxed_ch HX15.out hA (fun h => by have := HLT.out; have := h.1; omega)
  have KY : Hid (∀ A, Ch (fun q => w5.heap.size ≤ q ∧ q < w9.heap.size) w15 A → Boxed A (B + 1) U y) := fun A hA => boxed_ch HY15.out hA (fun h => by have := HLT.out; have := h.1; omega)
  have KU : Hid (∀ A, Ch (fun q => w5.heap.size ≤ q ∧ q < w9.heap.size) w15 A → UAt A O u da n c) := fun A hA => UAt.ch HRU15.out hA (fun h => by have := HLT.out; have := h.1; omega)
  have KT : Hid (∀ A, Ch (fun q => w5.heap.size ≤ q ∧ q < w9.heap.size) w15 A → TAt A O2 t la ln lc dt mt ct) := fun A hA => TAt.ch HRT15.out hA (fun h => by have := HLT.out; have := h.1; omega)
  have KA : Hid (∀ A, Ch (fun q => w5.heap.size ≤ q ∧ q < w9.heap.size) w15 A → UAt A OA u db n dc) := fun A hA => UAt.ch HOA15.out hA (fun h => by have := HLT.out; have := h.1; omega)
  have KBB : Hid (∀ A, Ch (fun q => w5.heap.size ≤ q ∧ q < w9.heap.size) w15 A → TAt A OB t lb1 ln mc1 db1 mt dc1) := fun A hA => TAt.ch HOB15.out hA (fun h => by have := HLT.out; have := h.1; omega)
  have KC : Hid (∀ A, Ch (fun q => w5.heap.size ≤ q ∧ q < w9.heap.size) w15 A → TAt A OC t lb2 ln mc2 db2 mt dc2) := fun A hA => TAt.ch HOC15.out hA (fun h => by have := HSZ.out; have := h.2; omega)
  have KK : Hid (∀ A, Ch (fun q => w5.heap.size ≤ q ∧ q < w9.heap.size) w15 A → TAt A OK t (some ⟨G, 0, none⟩) ln ln dt mt ct) := fun A hA => TAt.ch HOK15.out hA (fun h => by have := HSZ.out; have := h.2; omega)
  have KDU : Hid (∀ A, Ch (fun q => w5.heap.size ≤ q ∧ q < w9.heap.size) w15 A → DOk A u.d db n dc) := fun A hA => own_dok (hA.owns HWU15.out (fun q hq h => by have := HBU.out q hq; have := HLT.out; have := h.1; omega)) HK.out.d256 HK.out.sm
  have KDT : Hid (∀ A, Ch (fun q => w5.heap.size ≤ q ∧ q < w9.heap.size) w15 A → DOk A t.d db1 mt dc1) := fun A hA => own_dok (hA.owns HWT15.out (fun q hq h => by have := HBT.out q hq; have := HLT.out; have := h.1; omega)) HKT.out.d.d256 HKT.out.d.sm
  have KDK : Hid (∀ A, Ch (fun q => w5.heap.size ≤ q ∧ q < w9.heap.size) w15 A → DOk A t.d db2 mt dc2) := fun A hA => own_dok (hA.owns HWK15.out (fun q hq h => by have := (HWK15.out.lt q hq).1; have := HSZ.out; have := h.2; omega)) HKT.out.d.d256 HKT.out.d.sm
  have KPA : Hid (∀ A, Ch (fun q => w5.heap.size ≤ q ∧ q < w9.heap.size) w15 A → OptsAt A lb1 ps1) := fun A hA => OptsAt.ch HPA15.out hA (fun z hz h => by have := HB1.out.1 z hz; have := HLT.out; have := h.1; omega) (fun p hp z hz h => by have := HB1.out.2 p hp z hz; have := HLT.out; have := h.1; omega)
  have KPB : Hid (∀ A, Ch (fun q => w5.heap.size ≤ q ∧ q < w9.heap.size) w15 A → OptsAt A lb2 ps2) := fun A hA => OptsAt.ch HPB15.out hA (fun z hz h => by have := HB2.out.1 z hz; have := HSZ.out; have := h.2; omega) (fun p hp z hz h => by have := HB2.out.2 p hp z hz; have := HSZ.out; have := h.2; omega)
  have KTA : Hid (∀ A, Ch (fun q => w5.heap.size ≤ q ∧ q < w9.heap.size) w15 A → Seg .u8 A xa (toI UL)) := fun A hA => (owns_seg_at (hA.owns HTA15.out (fun q hq h => by have := (HTA15.out.lt q hq).1; have := HSZ.out; have := h.2; omega))).1
  have KTB : Hid (∀ A, Ch (fun q => w5.heap.size ≤ q ∧ q < w9.heap.size) w15 A → Seg .u8 A xb (toI TL)) := fun A hA => (owns_seg_at (hA.owns HTB15.out (fun q hq h => by have := (HTB15.out.lt q hq).1; have := HSZ.out; have := h.2; omega))).1
  have KTC : Hid (∀ A, Ch (fun q => w5.heap.size ≤ q ∧ q < w9.heap.size) w15 A → Seg .u8 A xc (toI OL)) := fun A hA => (owns_seg_at (hA.owns HTC15.out (fun q hq h => by have := (HTC15.out.lt q hq).1; have := HSZ.out; have := h.2; omega))).1
  have KG : Hid (∀ k p, ps[k]? = some p → w15.cell? ⟨G, k * 2 + 1, none⟩ = some (.slice p.a p.d.length p.c)) := fun k p h => (HCL15.out.cells k p h).2.2
  have HZE : Hid (w9.heap.size ≤ w15.heap.size) := by have h1 := HSZ.out; have h2 := HZ15.out; show _ ≤ _; omega
  have HROW : Hid (w15.ownsRow 0 5 1 (.slice va LU LU) LU ((toI UL).map (Value.int .u8))) := owns_le HRa15.out (Nat.zero_le _)
  have HZZ : Hid (w15.ownsRow w15.heap.size 41 1 (.slice none 0 0) 0 ((List.range 0).map (fun j => Value.slice (some ⟨(fun _ => 0 : Nat → Nat) (3 + j), 0, none⟩) 5 5))) := World.ownsRow_nil _ _ _ _
  clear hrw hrv HLT HSZ HBU HBT HB1 HB2 LTa LTb LTc HVs3 HVs5 HVs10 HVs15 HZ2 HZ3 HZ4 HZ5 HZ6 HZ7 HZ8 HZ9 HZ10 HZ11 HZ12 HZ13 HZ14 HZ15
  clear HX15 HY15 HRU15 HRT15 HWU15 HOA15 HWT15 HPA15 HOB15 HRa15 HRb15 HRc15 HCL15 HOK15 HTA15 HTB15 HTC15 HWK15 HPB15 HOC15
  have QM : Hid _ := F9.marked_any 0 va LU LU 11 _ w15 HROW.out (by omega)
  go_wp2_with fail
  refine Calls.mono QM.out ?_
  rintro e z1 ⟨Xa, Fa, rfl, hma, hca, hga⟩
  have hg1 := (F9.GS.start w15 rv F9.mkF (fun _ => 0) (fun _ => [])).step HRW.out (by omega) (X' := Xa) (F' := Fa) hma (by rw [HRV.out.1]; exact hca) (by rw [HRV.out.1]; exact hga)
  obtain ⟨X1, F1, HG1, hX1⟩ : ∃ X1 F1, Hid (F9.GS w15 rv F9.mkF 1 X1 F1 z1) ∧ Hid (X1 0 = Xa) := ⟨_, _, hg1, rfl⟩
  clear QM hma hca hga hg1 HROW
  obtain ⟨hn1, xs1, ho1⟩ := HG1.out.row' HRW.out (by omega) HRV.out.2.1
  have QM : Hid _ := F9.marked_any 0 vb LT LT 12 xs1 z1 ho1 hn1
  clear hn1 ho1
  go_wp2_with fail
  refine Calls.mono QM.out ?_
  rintro e z2 ⟨Xb, Fb, rfl, hma, hca, hga⟩
  have hg2 := HG1.out.step HRW.out (by omega) (X' := Xb) (F' := Fb) hma (by rw [HRV.out.2.1]; exact hca) (by rw [HRV.out.2.1]; exact hga)
  obtain ⟨X2, F2, HG2, hX2⟩ : ∃ X2 F2, Hid (F9.GS w15 rv F9.mkF 2 X2 F2 z2) ∧ Hid (X2 0 = Xa ∧ X2 1 = Xb) := ⟨_, _, hg2, hX1.out, rfl⟩
  clear QM hma hca hga hg2 HG1 hX1
  obtain ⟨hn1, xs2, ho1⟩ := HG2.out.row' HRW.out (by omega) HRV.out.2.2.1
  have QM : Hid _ := F9.marked_any 0 vc LO LO 13 xs2 z2 ho1 hn1
  clear hn1 ho1
  go_wp2_with fail
  refine Calls.mono QM.out ?_
  rintro e z3 ⟨Xc, Fc, rfl, hma, hca, hga⟩
  have hg3 := HG2.out.step HRW.out (by omega) (X' := Xc) (F' := Fc) hma (by rw [HRV.out.2.2.1]; exact hca) (by rw [HRV.out.2.2.1]; exact hga)
  obtain ⟨X3, F3, HG3⟩ : ∃ X3 F3, Hid (F9.GS w15 rv F9.mkF (3 + 0) X3 F3 z3 ∧ X3 0 = Xa ∧ X3 1 = Xb ∧ X3 2 = Xc) := ⟨_, _, hg3, hX2.out.1, hX2.out.2, rfl⟩
  have HL3 : Hid (z3.ownsRow w15.heap.size 41 1 (.slice none 0 0) 0 ((List.range 0).map (fun j => Value.slice (some ⟨X3 (3 + j), 0, none⟩) 5 5))) := World.ownsRow_nil _ _ _ _
  clear QM hma hca hga hg3 HG2 hX2 HZZ
  go_wp2
  go_loopw [28, 29] (fun lx ix wr => ∃ (i : Nat) (X : Nat → Nat) (F : Nat → List (Value × Nat)) (va9 : Option Addr) (vc9 : Nat), i ≤ ln ∧ lx = .slice va9 i vc9 ∧ ix = .int .i64 (i : Int) ∧ Hid (F9.GS w15 rv F9.mkF (3 + i) X F wr ∧ X 0 = Xa ∧ X 1 = Xb ∧ X 2 = Xc) ∧ Hid (wr.ownsRow w15.heap.size 41 1 (.slice va9 i vc9) i ((List.range i).map (fun j => Value.slice (some ⟨X (3 + j), 0, none⟩) 5 5)))) (fun _ ix _ => ln - (intOf ix).toNat)
  case atStart => exact ⟨0, X3, F3, none, 0, Nat.zero_le _, rfl, rfl, HG3, HL3⟩
  case round =>
    obtain ⟨i, X, F, va9, vc9, hi, rfl, rfl, HG, HL⟩ := hrel
    clear HG3 HL3
    have HA : Hid (Ch (fun q => w5.heap.size ≤ q ∧ q < w9.heap.size) w15 wr) := HMS.out (3 + i) X F wr (by omega) HG.out.1
    have k7 := (KK.out wr HA.out).c7
    by_cases hge : ln ≤ i
    · have d0 : ¬ (i : Int) < (ln : Int) := by omega
      have d6 : i = ln := by omega
      clear hge
      as_aux_lemma =>
        obtain ⟨w30, hw30⟩ : ∃ w30, w30 = wr := ⟨_, rfl⟩
        rw [← hw30] at HG HL HA k7 ⊢
        have HG30 : Hid (F9.GS w15 rv F9.mkF (3 + ln) X F w30) := by rw [← d6]; exact HG.out.1
        have HXX : Hid (X 0 = Xa ∧ X 1 = Xb ∧ X 2 = Xc) := HG.out.2
        have HL30 : Hid (w30.ownsRow w15.heap.size 41 1 (.slice va9 ln vc9) ln ((List.range ln).map (fun j => Value.slice (some ⟨X (3 + j), 0, none⟩) 5 5))) := by rw [← d6]; exact HL.out
        have HA30 : Hid (Ch (fun q => w5.heap.size ≤ q ∧ q < w9.heap.size) w15 w30) := HA.out
        have bel30 := KB.out w30 HA30.out
        have HIL : Hid (i = ln) := d6
        have QSU : Hid _ := sameU_true u da db n c dc w30 (HK.out.old bel30) (KDU.out w30 HA30.out)
        have uu := KU.out w30 HA30.out
        have ua := KA.out w30 HA30.out
        clear hw30 HG HL HA d6 KK
        go_wp2_with (first | (refine wpList_load_u9 (.tmp 7) rfl O u da n c rfl uu rfl ?_) | (refine wpList_load_u9 (.tmp 12) rfl OA u db n dc rfl ua rfl ?_))
        refine Calls.mono QSU.out ?_
        rintro e w31 ⟨rfl, hb31⟩
        have bel31 := bthen bel30 hb31
        have HG31 : Hid (F9.GS w15 rv F9.mkF (3 + ln) X F w31) := F9.GS.below HG30.out hb31
        have HL31 : Hid (w31.ownsRow w15.heap.size 41 1 (.slice va9 ln vc9) ln ((List.range ln).map (fun j => Value.slice (some ⟨X (3 + j), 0, none⟩) 5 5))) := own_dn hb31 HL30.out
        have HA31 : Hid (Ch (fun q => w5.heap.size ≤ q ∧ q < w9.heap.size) w15 w31) := chd HA30.out hb31
        clear HG30 HL30 HA30
        clear hb31 QSU uu ua k7
        have QST : Hid _ := sameT_true t la lb1 ln lc mc1 os ps1 dt db1 mt ct dc1 w31 (HKT.out.old bel31).oat (KPA.out w31 HA31.out) HKT.out.ol HV1.out.2.symm (by omega) (HKT.out.old bel31).d (KDT.out w31 HA31.out)
        have tt := KT.out w31 HA31.out
        have ta := KBB.out w31 HA31.out
        go_wp2_with (first | (refine wpList_load_t9 (.tmp 8) rfl O2 t la ln lc dt mt ct rfl tt rfl ?_) | (refine wpList_load_t9 (.tmp 13) rfl OB t lb1 ln mc1 db1 mt dc1 rfl ta rfl ?_))
        refine Calls.mono QST.out ?_
        rintro e w32 ⟨rfl, hb32⟩
        have bel32 := bthen bel31 hb32
        have HG32 : Hid (F9.GS w15 rv F9.mkF (3 + ln) X F w32) := F9.GS.below HG31.out hb32
        have HL32 : Hid (w32.ownsRow w15.heap.size 41 1 (.slice va9 ln vc9) ln ((List.range ln).map (fun j => Value.slice (some ⟨X (3 + j), 0, none⟩) 5 5))) := own_dn hb32 HL31.out
        have HA32 : Hid (Ch (fun q => w5.heap.size ≤ q ∧ q < w9.heap.size) w15 w32) := chd HA31.out hb32
        clear HG31 HL31 HA31
        clear hb32 QST tt ta
        have bx := KX.out w32 HA32.out
        have by' := KY.out w32 HA32.out
        have uu := KU.out w32 HA32.out
        go_wp2_with (first | (refine wpList_load_ip (.tmp 5) rfl B V x rfl bx rfl ?_) | (refine wpList_load_ip (.tmp 6) rfl (B + 1) U y rfl by' rfl ?_) | (refine wpList_load_u9 (.tmp 7) rfl O u da n c rfl uu rfl ?_))
        refine Calls.mono (QU.out w32 bel32) ?_
        rintro e w33 ⟨vd, er4, rfl, hb33, ho33⟩
        have HRd33 : Hid (w33.ownsRow w32.heap.size 5 1 (.slice vd LU LU) LU ((toI UL).map (Value.int .u8))) := ho33
        have bel33 := bthen bel32 hb33
        have HG33 : Hid (F9.GS w15 rv F9.mkF (3 + ln) X F w33) := F9.GS.below HG32.out hb33
        have HL33 : Hid (w33.ownsRow w15.heap.size 41 1 (.slice va9 ln vc9) ln ((List.range ln).map (fun j => Value.slice (some ⟨X (3 + j), 0, none⟩) 5 5))) := own_dn hb33 HL32.out
        have HA33 : Hid (Ch (fun q => w5.heap.size ≤ q ∧ q < w9.heap.size) w15 w33) := chd HA32.out hb33
        clear HG32 HL32 HA32
        clear ho33 hb33
        clear bx by' uu
        have bx := KX.out w33 HA33.out
        have by' := KY.out w33 HA33.out
        have tt := KT.out w33 HA33.out
        go_wp2_with (first | (refine wpList_load_ip (.tmp 5) rfl B V x rfl bx rfl ?_) | (refine wpList_load_ip (.tmp 6) rfl (B + 1) U y rfl by' rfl ?_) | (refine wpList_load_t9 (.tmp 8) rfl O2 t la ln lc dt mt ct rfl tt rfl ?_))
        refine Calls.mono (QT.out w33 bel33) ?_
        rintro e w34 ⟨ve, er5, rfl, hb34, ho34⟩
        have HRe34 : Hid (w34.ownsRow w33.heap.size 5 1 (.slice ve LT LT) LT ((toI TL).map (Value.int .u8))) := ho34
        have bel34 := bthen bel33 hb34
        have HG34 : Hid (F9.GS w15 rv F9.mkF (3 + ln) X F w34) := F9.GS.below HG33.out hb34
        have HL34 : Hid (w34.ownsRow w15.heap.size 41 1 (.slice va9 ln vc9) ln ((List.range ln).map (fun j => Value.slice (some ⟨X (3 + j), 0, none⟩) 5 5))) := own_dn hb34 HL33.out
        have HA34 : Hid (Ch (fun q => w5.heap.size ≤ q ∧ q < w9.heap.size) w15 w34) := chd HA33.out hb34
        have HRd34 : Hid (w34.ownsRow w32.heap.size 5 1 (.slice vd LU LU) LU ((toI UL).map (Value.int .u8))) := own_dn hb34 HRd33.out
        clear HG33 HL33 HA33 HRd33
        clear ho34 hb34
        clear bx by' tt
        have c7 := (KT.out w34 HA34.out).c7
        go_wp2_with fail
        refine Calls.mono (QO.out w34 bel34) ?_
        rintro e w35 ⟨vf, er6, rfl, hb35, ho35⟩
        have HRf35 : Hid (w35.ownsRow w34.heap.size 5 1 (.slice vf LO LO) LO ((toI OL).map (Value.int .u8))) := ho35
        have bel35 := bthen bel34 hb35
        have HG35 : Hid (F9.GS w15 rv F9.mkF (3 + ln) X F w35) := F9.GS.below HG34.out hb35
        have HL35 : Hid (w35.ownsRow w15.heap.size 41 1 (.slice va9 ln vc9) ln ((List.range ln).map (fun j => Value.slice (some ⟨X (3 + j), 0, none⟩) 5 5))) := own_dn hb35 HL34.out
        have HA35 : Hid (Ch (fun q => w5.heap.size ≤ q ∧ q < w9.heap.size) w15 w35) := chd HA34.out hb35
        have HRd35 : Hid (w35.ownsRow w32.heap.size 5 1 (.slice vd LU LU) LU ((toI UL).map (Value.int .u8))) := own_dn hb35 HRd34.out
        have HRe35 : Hid (w35.ownsRow w33.heap.size 5 1 (.slice ve LT LT) LT ((toI TL).map (Value.int .u8))) := own_dn hb35 HRe34.out
        clear HG34 HL34 HA34 HRd34 HRe34
        clear ho35 hb35
        clear c7
        have tt := KT.out w35 HA35.out
        go_wp2_with (first | (refine wpList_load_t9 (.tmp 8) rfl O2 t la ln lc dt mt ct rfl tt rfl ?_))
        refine Calls.mono (QCl.out w35 bel35) ?_
        rintro e w36 ⟨G2, ps3, rfl, hcl2⟩
        have hb36 := hcl2.bel
        have HO336 : Hid (OptsAt w36 (some ⟨G2, 0, none⟩) ps3) := hcl2.opts
        have HV3 : Hid (ps3.length = ln ∧ vals ps3 = vals ps2) := ⟨hcl2.pl, by rw [hcl2.all' HKT.out.ol, HV2.out.2, HPV.out.1]⟩
        have bel36 := bthen bel35 hb36
        have HG36 : Hid (F9.GS w15 rv F9.mkF (3 + ln) X F w36) := F9.GS.below HG35.out hb36
        have HL36 : Hid (w36.ownsRow w15.heap.size 41 1 (.slice va9 ln vc9) ln ((List.range ln).map (fun j => Value.slice (some ⟨X (3 + j), 0, none⟩) 5 5))) := own_dn hb36 HL35.out
        have HA36 : Hid (Ch (fun q => w5.heap.size ≤ q ∧ q < w9.heap.size) w15 w36) := chd HA35.out hb36
        have HRd36 : Hid (w36.ownsRow w32.heap.size 5 1 (.slice vd LU LU) LU ((toI UL).map (Value.int .u8))) := own_dn hb36 HRd35.out
        have HRe36 : Hid (w36.ownsRow w33.heap.size 5 1 (.slice ve LT LT) LT ((toI TL).map (Value.int .u8))) := own_dn hb36 HRe35.out
        have HRf36 : Hid (w36.ownsRow w34.heap.size 5 1 (.slice vf LO LO) LO ((toI OL).map (Value.int .u8))) := own_dn hb36 HRf35.out
        clear HG35 HL35 HA35 HRd35 HRe35 HRf35
        clear hcl2 hb36 tt
        have hl37 : Below w36.heap.size w36 (w36.alloc (.cells (tC t (some ⟨G2, 0, none⟩) ln ln dt mt ct) 30)) := (Below.refl _ _).alloc (Nat.le_refl _) _
        have un37 := tAt_new w36 t (some ⟨G2, 0, none⟩) ln ln dt mt ct
        obtain ⟨w37, hw37⟩ : ∃ w37, w37 = w36.alloc (.cells (tC t (some ⟨G2, 0, none⟩) ln ln dt mt ct) 30) := ⟨_, rfl⟩
        rw [← hw37] at hl37 un37
        have HW37 : Hid (w36.alloc (.cells #[.int .i64 t.sp, .int .i64 t.dp, .int .i64 t.sq, .int .i64 t.ak, .int .i64 t.fl, .int .i64 t.wi, .int .i64 t.ur, .slice (some ⟨G2, 0, none⟩) ln ln, .slice dt mt ct] 30) = w37) := hw37.symm
        obtain ⟨OD, hOD⟩ : ∃ OD, OD = w36.heap.size := ⟨_, rfl⟩
        rw [← hOD] at un37
        have HOD37 : Hid (TAt w37 OD t (some ⟨G2, 0, none⟩) ln ln dt mt ct) := un37
        have HVs37 : Hid (w36.heap.size = OD) := hOD.symm
        have HZ37 : Hid (w36.heap.size ≤ w37.heap.size) := hl37.size
        have bel37 := bthen bel36 hl37
        have HG37 : Hid (F9.GS w15 rv F9.mkF (3 + ln) X F w37) := F9.GS.below HG36.out hl37
        have HL37 : Hid (w37.ownsRow w15.heap.size 41 1 (.slice va9 ln vc9) ln ((List.range ln).map (fun j => Value.slice (some ⟨X (3 + j), 0, none⟩) 5 5))) := own_dn hl37 HL36.out
        have HA37 : Hid (Ch (fun q => w5.heap.size ≤ q ∧ q < w9.heap.size) w15 w37) := chd HA36.out hl37
        have HRd37 : Hid (w37.ownsRow w32.heap.size 5 1 (.slice vd LU LU) LU ((toI UL).map (Value.int .u8))) := own_dn hl37 HRd36.out
        have HRe37 : Hid (w37.ownsRow w33.heap.size 5 1 (.slice ve LT LT) LT ((toI TL).map (Value.int .u8))) := own_dn hl37 HRe36.out
        have HRf37 : Hid (w37.ownsRow w34.heap.size 5 1 (.slice vf LO LO) LO ((toI OL).map (Value.int .u8))) := own_dn hl37 HRf36.out
        have HO337 : Hid (OptsAt w37 (some ⟨G2, 0, none⟩) ps3) := OptsAt.old HO336.out hl37
        clear HG36 HL36 HA36 HRd36 HRe36 HRf36 HO336
        clear hl37 un37 hw37 hOD
        rw [show tC t (some ⟨G2, 0, none⟩) ln ln dt mt ct = #[.int .i64 t.sp, .int .i64 t.dp, .int .i64 t.sq, .int .i64 t.ak, .int .i64 t.fl, .int .i64 t.wi, .int .i64 t.ur, .slice (some ⟨G2, 0, none⟩) ln ln, .slice dt mt ct] from rfl]
        go_upto_region 26 with fail
        rw [HVs37.out, HW37.out]
        clear HW37
        have QA : Hid _ := alike_any vd xa LU LU LU xac UL UL w37 HU.out.1 HU.out.1 (owns_seg_at HRd37.out).1 (KTA.out w37 HA37.out) HU.out.2 HU.out.2
        rw [decide_eq_true rfl] at QA
        go_wp2_with fail
        refine Calls.mono QA.out ?_
        rintro e wn ⟨rfl, rfl⟩
        clear QA
        have QA : Hid _ := alike_any ve xb LT LT LT xbc TL TL w37 HTT.out.1 HTT.out.1 (owns_seg_at HRe37.out).1 (KTB.out w37 HA37.out) HTT.out.2 HTT.out.2
        rw [decide_eq_true rfl] at QA
        go_wp2_with fail
        refine Calls.mono QA.out ?_
        rintro e wn ⟨rfl, rfl⟩
        clear QA
        have QA : Hid _ := alike_any vf xc LO LO LO xcc OL OL w37 HOO.out.1 HOO.out.1 (owns_seg_at HRf37.out).1 (KTC.out w37 HA37.out) HOO.out.2 HOO.out.2
        rw [decide_eq_true rfl] at QA
        go_wp2_with fail
        refine Calls.mono QA.out ?_
        rintro e wn ⟨rfl, rfl⟩
        clear QA
        have QST : Hid _ := sameT_true t (some ⟨G2, 0, none⟩) lb2 ln ln mc2 ps3 ps2 dt db2 mt ct dc2 w37 HO337.out (KPB.out w37 HA37.out) HV3.out.1 HV3.out.2 (by omega) (HKT.out.old bel37).d (KDK.out w37 HA37.out)
        have tc := KC.out w37 HA37.out
        go_wp2_with (first | (refine wpList_load_t9 (.tmp 36) rfl OD t (some ⟨G2, 0, none⟩) ln ln dt mt ct rfl HOD37.out rfl ?_) | (refine wpList_load_t9 (.tmp 24) rfl OC t lb2 ln mc2 db2 mt dc2 rfl tc rfl ?_))
        refine Calls.mono QST.out ?_
        rintro e w38 ⟨rfl, hb38⟩
        have bel38 := bthen bel37 hb38
        have HG38 : Hid (F9.GS w15 rv F9.mkF (3 + ln) X F w38) := F9.GS.below HG37.out hb38
        have HL38 : Hid (w38.ownsRow w15.heap.size 41 1 (.slice va9 ln vc9) ln ((List.range ln).map (fun j => Value.slice (some ⟨X (3 + j), 0, none⟩) 5 5))) := own_dn hb38 HL37.out
        have HA38 : Hid (Ch (fun q => w5.heap.size ≤ q ∧ q < w9.heap.size) w15 w38) := chd HA37.out hb38
        have HRd38 : Hid (w38.ownsRow w32.heap.size 5 1 (.slice vd LU LU) LU ((toI UL).map (Value.int .u8))) := own_dn hb38 HRd37.out
        have HRe38 : Hid (w38.ownsRow w33.heap.size 5 1 (.slice ve LT LT) LT ((toI TL).map (Value.int .u8))) := own_dn hb38 HRe37.out
        have HRf38 : Hid (w38.ownsRow w34.heap.size 5 1 (.slice vf LO LO) LO ((toI OL).map (Value.int .u8))) := own_dn hb38 HRf37.out
        have HO338 : Hid (OptsAt w38 (some ⟨G2, 0, none⟩) ps3) := OptsAt.old HO337.out hb38
        have HOD38 : Hid (TAt w38 OD t (some ⟨G2, 0, none⟩) ln ln dt mt ct) := TAt.below HOD37.out hb38
        clear HG37 HL37 HA37 HRd37 HRe37 HRf37 HO337 HOD37
        clear hb38 QST tc
        have il := HIL.out
        subst il
        clear HIL
        go_wp2
        clear d0
        go_loop [37] (fun ix => ∃ j : Nat, j ≤ i ∧ ix = .int .i64 (j : Int)) (fun ix => i - (intOf ix).toNat)
        case atStart => exact ⟨0, Nat.zero_le _, rfl⟩
        case round =>
          obtain ⟨j, hj, rfl⟩ := hrel
          by_cases hge : i ≤ j
          · have d0 : ¬ (j : Int) < (i : Int) := by omega
            clear hge
            have Q1 : Hid _ := F9.holds_any Xa 11 (F 0) w38 (by have := HG38.out.mg 0 (by omega); rw [HXX.out.1] at this; exact this)
            have Q2 : Hid _ := F9.holds_any Xb 12 (F 1) w38 (by have := HG38.out.mg 1 (by omega); rw [HXX.out.2.1] at this; exact this)
            have Q3 : Hid _ := F9.holds_any Xc 13 (F 2) w38 (by have := HG38.out.mg 2 (by omega); rw [HXX.out.2.2] at this; exact this)
            go_wp2_with fail
            refine Calls.mono Q1.out ?_
            rintro e wn ⟨rfl, rfl⟩
            go_wp2_with fail
            refine Calls.mono Q2.out ?_
            rintro e wn ⟨rfl, rfl⟩
            go_wp2_with fail
            refine Calls.mono Q3.out ?_
            rintro e wn ⟨rfl, rfl⟩
            go_wp2
            go_ret
            exact ⟨rfl, bel38⟩
          · have d0 : (j : Int) < (i : Int) := by omega
            have hji : j < i := by omega
            obtain ⟨lb, hlb, clb⟩ := F9.list_at HL38.out j hji
            subst hlb
            obtain ⟨mm, hmm⟩ : ∃ mm, mm = 20 + j % 200 := ⟨_, rfl⟩
            have m1 : IntKind.u8.wrap (20 + (j : Int) % 200) = (mm : Int) := by rw [hmm]; exact mark9 j
            have m2 : IntKind.i64.wrap (20 + (j : Int) % 200) = 20 + (j : Int) % 200 := by rw [IntKind.wrap_i64]; omega
            have m3 : Int.tmod (j : Int) 200 = (j : Int) % 200 := Int.tmod_eq_emod_of_nonneg (by omega)
            have QH : Hid _ := F9.holds_any (X (3 + j)) mm (F (3 + j)) w38 (by have := HG38.out.mg (3 + j) (by omega); rw [F9.mkF_at, ← hmm] at this; exact this)
            obtain ⟨xj, hxj⟩ : ∃ xj, xj = X (3 + j) := ⟨_, rfl⟩
            rw [← hxj] at QH clb
            clear hge hmm hxj
            go_wp2_with fail
            refine Calls.mono QH.out ?_
            rintro e wn ⟨rfl, rfl⟩
            clear QH
            go_wp2
            go_round
            case rel => exact ⟨j + 1, by omega, by go_num⟩
            case measure => simp [intOf]; omega
    · have d0 : (i : Int) < (ln : Int) := by omega
      have hlt : i < ln := by omega
      clear hge
      as_aux_lemma =>
        obtain ⟨p, hp⟩ : ∃ p, ps[i]? = some p := ⟨_, List.getElem?_eq_getElem (by rw [HPV.out.2]; exact hlt)⟩
        have hrvi := HRV.out.2.2.2 i p hp
        obtain ⟨hn1, xs1, ho1⟩ := HG.out.1.row' HRW.out (by omega) hrvi
        have cg : wr.cell? ⟨G, i * 2 + 1, none⟩ = some (.slice p.a p.d.length p.c) := HG.out.1.ch.cell (KG.out i p hp) (fun ⟨j, hj, e⟩ => (HRG.out j (by omega) _ e).2 rfl)
        obtain ⟨pn, hpn⟩ : ∃ pn, pn = p.d.length := ⟨_, rfl⟩
        rw [← hpn] at hrvi hn1 ho1 cg
        obtain ⟨mm, hmm⟩ : ∃ mm, mm = 20 + i % 200 := ⟨_, rfl⟩
        have m1 : IntKind.u8.wrap (20 + (i : Int) % 200) = (mm : Int) := by rw [hmm]; exact mark9 i
        have m2 : IntKind.i64.wrap (20 + (i : Int) % 200) = 20 + (i : Int) % 200 := by rw [IntKind.wrap_i64]; omega
        have m3 : Int.tmod (i : Int) 200 = (i : Int) % 200 := Int.tmod_eq_emod_of_nonneg (by omega)
        have HMM : Hid (F9.mkF (3 + i) = mm) := by rw [hmm]; exact F9.mkF_at i
        have HRI : Hid (rv (3 + i) = .slice p.a pn p.c) := hrvi
        have QM : Hid _ := F9.marked_any 0 p.a pn p.c mm xs1 wr ho1 hn1
        obtain ⟨pa, hpa⟩ : ∃ pa, pa = p.a := ⟨_, rfl⟩
        obtain ⟨pc, hpc⟩ : ∃ pc, pc = p.c := ⟨_, rfl⟩
        rw [← hpa, ← hpc] at QM HRI cg
        clear hp hrvi hn1 ho1 hmm hpn hpa hpc
        go_wp2_with fail
        refine Calls.mono QM.out ?_
        rintro e y1 ⟨Xn, Fn, rfl, hma, hca, hga⟩
        have hgn := HG.out.1.step HRW.out (by omega) (X' := Xn) (F' := Fn) (by rw [HMM.out]; exact hma) (by rw [HRI.out]; exact hca) (by rw [HRI.out]; exact hga)
        have HLn : Hid (y1.ownsRow w15.heap.size 41 1 (.slice va9 i vc9) i ((List.range i).map (fun j => Value.slice (some ⟨X (3 + j), 0, none⟩) 5 5))) := hca.owns HL.out (fun q hq z => by
          have h1 := (HL.out.lt q hq).1
          have h2 := HRG.out (3 + i) (by omega) q (by rw [HRI.out]; exact z)
          have h3 := HZE.out
          omega)
        obtain ⟨Y, FY, HGn, hY⟩ : ∃ Y FY, Hid (F9.GS w15 rv F9.mkF (3 + (i + 1)) Y FY y1 ∧ Y 0 = Xa ∧ Y 1 = Xb ∧ Y 2 = Xc) ∧ Hid ((List.range i).map (fun j => Value.slice (some ⟨X (3 + j), 0, none⟩) 5 5) ++ [.slice (some ⟨Xn, 0, none⟩) 5 5] = (List.range (i + 1)).map (fun j => Value.slice (some ⟨Y (3 + j), 0, none⟩) 5 5)) := by
          refine ⟨_, _, ⟨hgn, ?_, ?_, ?_⟩, ?_⟩
          · rw [if_neg (by omega)]; exact HG.out.2.1
          · rw [if_neg (by omega)]; exact HG.out.2.2.1
          · rw [if_neg (by omega)]; exact HG.out.2.2.2
          · show _ = _
            rw [List.range_succ, List.map_append]
            congr 1
            · refine List.map_congr_left (fun j hj => ?_)
              rw [List.mem_range] at hj
              rw [if_neg (by omega)]
            · simp
        have hZy : w15.heap.size ≤ y1.heap.size := HGn.out.1.ch.size
        obtain ⟨j1, hj1, hx0, hx1, hx2⟩ := info_parts Tryd.infoRows9
        clear QM hma hca hga hgn HG HL k7 cg m1 m2 m3
        go_wp2_with (first | (at_builtin; refine wpList_append_own _ rfl (.tmp 87) (.tmp 99) 43 rfl w15.heap.size 41 j1 (.slice none 0 0) 1 24 Tryd.underlying43 hj1 hx0 hx1 hx2 rfl (by decide) _ _ _ rfl (HLn.out.alloc _) ⟨y1.heap.size, 0, none⟩ 1 1 [.slice (some ⟨Xn, 0, none⟩) 5 5] rfl rfl ?q1 ?q2 ?q3 ?q4 ?q5 ?_))
        try (case q1 => exact F9.oneW9 _ _ _)
        try (case q2 => first | rfl | (intro u hu; simp only [List.mem_cons, List.not_mem_nil, or_false] at hu; rw [hu]; rfl))
        try (case q3 => unfold maxLen; omega)
        try (case q4 => omega)
        try (case q5 => first | omega | (simp; omega))
        intro v6 y2 ho6 hg6 _
        rw [hY.out] at ho6
        obtain ⟨va8, vc8, rfl⟩ := owns_shape ho6
        have HN1 : Hid (F9.GS w15 rv F9.mkF (3 + (i + 1)) Y FY y2 ∧ Y 0 = Xa ∧ Y 1 = Xb ∧ Y 2 = Xc) := ⟨(HGn.out.1.below ((Below.refl _ _).alloc (Nat.le_refl _) _)).long (HLn.out.alloc _) (Nat.le_refl _) hg6, HGn.out.2⟩
        have HN2 : Hid (y2.ownsRow w15.heap.size 41 1 (.slice va8 (i + 1) vc8) (i + 1) ((List.range (i + 1)).map (fun j => Value.slice (some ⟨Y (3 + j), 0, none⟩) 5 5))) := ho6
        clear ho6 hg6 HGn HLn hY hZy
        go_wp2
        go_roundw
        case rel => exact ⟨i + 1, Y, FY, va8, vc8, by omega, rfl, by go_num, HN1, HN2⟩
        case measure => simp [intOf]; omega
end Go.Proofs.YtldallgafpmcjaaDoor
