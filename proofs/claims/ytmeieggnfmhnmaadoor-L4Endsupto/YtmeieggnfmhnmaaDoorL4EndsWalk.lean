/-
  The walk of L4Ends: the sum guards the two addresses.
-/
import Derived.Test.YtmeieggnfmhnmaaDoorL9EndP
import Derived.Deep.DeepCutAuto
namespace Go.Proofs.YtmeieggnfmhnmaaDoor
open Go.RowKit
open L4 (U9 T9)

theorem putU_u (V U : Int) (x y : Nat → Nat) (u : U9) (da : Option Addr) (n c : Nat) (w : World) (hw : UW w) (k : DOk w u.d da n c) (hx : ∀ i, i < 16 → x i < 256) (hy : ∀ i, i < 16 → y i < 256) :
    Calls Tryd.prog 13 #[.agg (ipCells V x), .agg (ipCells U y), .agg (uC u da n c)] w fun e w' => ∃ (er : Nat) (a : Option Addr) (L : Nat) (bs : List Nat), e = .returned (.tuple #[.slice a L L, .int .i64 (er : Nat)]) ∧ Below w.heap.size w w' ∧ DOk w' bs a L L ∧ (er = 0 → psOk V U x y = true ∧ L4.uChk V u = 0 ∧ L = 8 + n ∧ bs = L4.uSer u (psL V U x y 17 ((8 + n : Nat) : Int))) := by
  refine (putU_any V U x y u da n c w hw k hx hy).mono ?_
  rintro e w' ⟨v, er, rfl, her, hb, hr⟩
  rcases hr with ⟨h0, g, rfl, ho⟩ | ⟨h0, rfl⟩
  · have hok : psOk V U x y = true ∧ L4.uChk V u = 0 := by
      have h := her.symm.trans h0
      unfold L4.uPutE at h
      cases hp : psOk V U x y with
      | true => rw [hp, if_pos rfl] at h; exact ⟨rfl, h⟩
      | false => rw [hp] at h; cases h
    have h5 := (L4.uChk_zero hok.2).2.2.2.2
    rw [k.dl] at h5
    refine ⟨er, some ⟨g, 0, none⟩, 8 + n, _, rfl, hb, ⟨by rw [L4.uSer_len, k.dl], (owns_seg_at ho).1, L4.uSer_256 u _ hok.2 k.d256, Nat.le_refl _, by omega, by omega⟩, fun _ => ⟨hok.1, hok.2, rfl, rfl⟩⟩
  · exact ⟨er, none, 0, [], rfl, hb, d_zero w', fun h => absurd h h0⟩
theorem putT_u (V U : Int) (x y : Nat → Nat) (t : T9) (la : Option Addr) (ln lc : Nat) (os : List OpV) (da : Option Addr) (n c : Nat) (w : World) (hw : TW w) (hlw : LW w) (k : TOk w t la ln os da n c) (hx : ∀ i, i < 16 → x i < 256) (hy : ∀ i, i < 16 → y i < 256) :
    Calls Tryd.prog 18 #[.agg (ipCells V x), .agg (ipCells U y), .agg (tC t la ln lc da n c)] w fun e w' => ∃ (er : Nat) (a : Option Addr) (L : Nat) (bs : List Nat), e = .returned (.tuple #[.slice a L L, .int .i64 (er : Nat)]) ∧ Below w.heap.size w w' ∧ DOk w' bs a L L ∧ (er = 0 → psOk V U x y = true ∧ L4.tChk t = 0 ∧ L ≤ 65535 ∧ bs = L4.tSer t (psL V U x y 6 ((L : Nat) : Int))) := by
  refine (putT_any V U x y t la ln lc os da n c w hw hlw k hx hy).mono ?_
  rintro e w' ⟨v, er, rfl, her, hb, hr⟩
  rcases hr with ⟨h0, g, rfl, ho⟩ | ⟨h0, rfl⟩
  · have hok : psOk V U x y = true ∧ L4.tChk t = 0 := by
      have h := her.symm.trans h0
      unfold L4.tPutE at h
      cases hp : psOk V U x y with
      | true => rw [hp, if_pos rfl] at h; exact ⟨rfl, h⟩
      | false => rw [hp] at h; cases h
    have h5 := (L4.tChk_zero hok.2).2.2
    rw [k.d.dl] at h5
    refine ⟨er, some ⟨g, 0, none⟩, 20 + (I4.putO t.os).length + n, _, rfl, hb, ⟨by rw [L4.tSer_len, k.d.dl], (owns_seg_at ho).1, tSer_256 k hok.2 _, Nat.le_refl _, by omega, by omega⟩, fun _ => ⟨hok.1, hok.2, h5, rfl⟩⟩
  · exact ⟨er, none, 0, [], rfl, hb, d_zero w', fun h => absurd h h0⟩
theorem IpRow.fz {w : World} {O : Nat} {C : Array Value} (k : IpRow w O C) (j : Nat) : w.frozen? ⟨O, j, none⟩ = false := by
  unfold IpRow at k
  simp [World.frozen?, k]
theorem IpRow.lt {w : World} {O : Nat} {C : Array Value} (k : IpRow w O C) : O < w.heap.size := (Array.getElem?_eq_some_iff.1 k).1
theorem IpRow.below {w w' : World} {O : Nat} {C : Array Value} (k : IpRow w O C) (h : Below w.heap.size w w') : IpRow w' O C := (h.block O k.lt).trans k
theorem ip_stored {w w5 : World} {X : Obj} (k5 : Ch (fun q => q = w.heap.size) (w.alloc X) w5) : Below w.heap.size w w5 :=
  ((Below.refl _ _).alloc (Nat.le_refl _) _).trans (k5.below (fun q e => by have e' : q = w.heap.size := e; omega) (by simp))
theorem cell_far (w : World) (p a : Addr) (v : Value) (h : p.block ≠ a.block) : (w.setCell p v).cell? a = w.cell? a := by
  simp only [World.setCell, World.cell?, Array.getElem?_modify, h, if_false]
theorem boxed_far {w : World} {B : Nat} {V : Int} {x : Nat → Nat} (h : Boxed w B V x) (O i : Nat) (v : Value) (hne : O ≠ B) : Boxed (w.setCell ⟨O, i, none⟩ v) B V x :=
  ⟨by rw [cell_far _ _ _ _ hne]; exact h.ver, fun j hj => by rw [cell_far _ _ _ _ hne]; exact h.byte j hj⟩
set_option maxHeartbeats 25600000 in
set_option maxRecDepth 100000 in
theorem l4Ends.walk (w : World) (hT : Tabs w) (V : Int) (x : Nat → Nat) (hx : ∀ i, i < 16 → x i < 256) (U : Int) (y : Nat → Nat) (hy : ∀ i, i < 16 → y i < 256) (u : U9) (da : Option Addr) (n c : Nat) (k : DOk w u.d da n c)
    (t : T9) (la : Option Addr) (ln lc : Nat) (os : List OpV) (dt : Option Addr) (mt ct : Nat) (kt : TOk w t la ln os dt mt ct) (_ : ln ≤ 1048576 ∧ (∀ o ∈ os, o.d.length ≤ 1048576) ∧ mt ≤ 1048576) (bit : Int) :
    Calls Tryd.prog 4 #[.agg (ipCells V x), .agg (ipCells U y), .agg (uC u da n c), .agg (tC t la ln lc dt mt ct), .int .i64 bit] w fun e w' => e = .returned (.bool true) ∧ Below w.heap.size w w' := by
  obtain ⟨A, hA⟩ : ∃ A, A = ipCells V x := ⟨_, rfl⟩
  obtain ⟨C, hC⟩ : ∃ C, C = ipCells U y := ⟨_, rfl⟩
  have hx1 := boxed_new w V x 24
  have hy1 := boxed_new (w.alloc (.cells (ipCells V x) 24)) U y 24
  rw [World.size_alloc] at hy1
  have hx2 := hx1.old ((Below.refl _ _).alloc (Nat.le_refl _) (.cells (ipCells U y) 24))
  clear hx1
  rw [← hA] at hx2 hy1 ⊢
  rw [← hC] at hx2 hy1 ⊢
  obtain ⟨M, hM⟩ : ∃ M, M = uC u da n c := ⟨_, rfl⟩
  obtain ⟨N, hN⟩ : ∃ N, N = tC t la ln lc dt mt ct := ⟨_, rfl⟩
  obtain ⟨W2, hW2⟩ : ∃ W2, W2 = (w.alloc (.cells A 24)).alloc (.cells C 24) := ⟨_, rfl⟩
  have s2 : W2.heap.size = w.heap.size + 1 + 1 := by rw [hW2]; simp
  have bel2 : Below w.heap.size w W2 := by rw [hW2]; exact ((Below.refl _ _).alloc (Nat.le_refl _) _).alloc (by simp) _
  rw [← hW2] at hx2 hy1
  have hru := uAt_new W2 u da n c
  have b3 : Below W2.heap.size W2 (W2.alloc (.cells M 28)) := (Below.refl _ _).alloc (Nat.le_refl _) _
  rw [← hM] at hru ⊢
  obtain ⟨W3, hW3⟩ : ∃ W3, W3 = W2.alloc (.cells M 28) := ⟨_, rfl⟩
  rw [← hW3] at hru b3
  have s3 : W3.heap.size = W2.heap.size + 1 := by rw [hW3]; simp
  have hrt := tAt_new W3 t la ln lc dt mt ct
  have b4 : Below W3.heap.size W3 (W3.alloc (.cells N 39)) := (Below.refl _ _).alloc (Nat.le_refl _) _
  rw [← hN] at hrt ⊢
  obtain ⟨W, hW⟩ : ∃ W, W = W3.alloc (.cells N 39) := ⟨_, rfl⟩
  rw [← hW] at hrt b4
  have bel3 := bthen bel2 b3
  have bel := bthen bel3 b4
  have HXB : Hid (Boxed W w.heap.size V x) := (hx2.old b3).old b4
  have HYB : Hid (Boxed W (w.heap.size + 1) U y) := (hy1.old b3).old b4
  obtain ⟨B, hB⟩ : ∃ B, B = w.heap.size := ⟨_, rfl⟩
  rw [← hB] at HXB HYB s2
  obtain ⟨O, hO⟩ : ∃ O, O = B + 1 + 1 := ⟨_, rfl⟩
  obtain ⟨O2, hO2⟩ : ∃ O2, O2 = O + 1 := ⟨_, rfl⟩
  rw [s2, ← hO] at hru
  rw [s3, s2, ← hO, ← hO2] at hrt
  have HRU : Hid (UAt W O u da n c) := hru.below b4
  have HRT : Hid (TAt W O2 t la ln lc dt mt ct) := hrt
  have HB : Hid (w.heap.size = B) := hB.symm
  have HO : Hid (B + 1 + 1 = O) := hO.symm
  have HO2 : Hid (O + 1 = O2) := hO2.symm
  have HW : Hid ((((w.alloc (.cells A 24)).alloc (.cells C 24)).alloc (.cells M 28)).alloc (.cells N 39) = W) := by show _ = _; rw [hW, hW3, hW2]
  have HX : Hid (∀ i, i < 16 → x i < 256) := hx
  have HY : Hid (∀ i, i < 16 → y i < 256) := hy
  clear hW hW2 hW3 hx2 hy1 hx hy hA hC hB hM hN hO hO2 hru hrt b3 b4 bel2 bel3 s2 s3
  have HK : Hid (DOk w u.d da n c) := k
  have HKT : Hid (TOk w t la ln os dt mt ct) := kt
  have HT : Hid (∀ A, Below w.heap.size w A → Tabs A) := fun A hA => hT.old hA
  have QS : Hid _ := started_any W (HT.out W bel)
  have HBW : Hid (w.heap.size + 4 ≤ W.heap.size) := by
    show _ ≤ _
    rw [← HW.out]
    simp
  have HBO : Hid (B = w.heap.size ∧ O = B + 2 ∧ O2 = B + 3) := by
    refine ⟨HB.out.symm, ?_, ?_⟩
    · rw [← HO.out]
    · rw [← HO2.out, ← HO.out]
  clear k kt hT
  go_enter Tryd.func4, Tryd.ntmps4
  go_upto_region 1 with fail
  rw [HB.out, HO.out, HO2.out, HW.out]
  go_wp2_with fail
  refine Calls.mono QS.out ?_
  rintro e w1 ⟨rfl, hb1⟩
  have bel1 := bthen bel hb1
  have HX1 : Hid (Boxed w1 B V x) := HXB.out.old hb1
  have HY1 : Hid (Boxed w1 (B + 1) U y) := HYB.out.old hb1
  have HRU1 : Hid (UAt w1 O u da n c) := HRU.out.below hb1
  have HRT1 : Hid (TAt w1 O2 t la ln lc dt mt ct) := HRT.out.below hb1
  have HB1 : Hid (B + 4 ≤ w1.heap.size) := by have := hb1.size; have := HBW.out; have := HBO.out.1; show _ ≤ _; omega
  clear QS hb1 HXB HYB HRU HRT HW bel HB HO HO2 HBW
  have ver := HX1.out.ver
  obtain ⟨nb, hnb⟩ : ∃ nb, nb = nB V := ⟨_, rfl⟩
  obtain ⟨NN, hNN⟩ : ∃ NN, NN = 8 * nb := ⟨_, rfl⟩
  have HNB : Hid (nb = nB V) := hnb
  have HNN : Hid (NN = 8 * nb) := hNN
  have HV6 : Hid (V = 6 → NN = 128) := fun h => by rw [hNN, hnb, h]; rfl
  have HV4 : Hid (V ≠ 6 → NN = 32) := fun h => by rw [hNN, hnb]; unfold nB; rw [if_neg h]
  have n1 : NN = 32 ∨ NN = 128 := by
    by_cases h : V = 6
    · exact .inr (HV6.out h)
    · exact .inl (HV4.out h)
  have HN1 : Hid (NN = 32 ∨ NN = 128) := n1
  clear hnb hNN n1
  go_upto_if 26 with fail
  go_cut [12] (fun s wx => s = .int .i64 (NN : Int) ∧ w1 = wx)
  case first =>
    by_cases h6 : V = 6
    · have e128 : NN = 128 := HV6.out h6
      subst h6
      go_wp2
      go_meet
      exact ⟨by rw [e128]; rfl, rfl⟩
    · have e32 : NN = 32 := HV4.out h6
      have b6 : (V == 6) = false := by rw [beq_eq_false_iff_ne]; exact h6
      clear h6
      go_wp2
      go_meet
      exact ⟨by rw [e32]; rfl, rfl⟩
  case rest =>
  obtain ⟨rfl, rfl⟩ := hcut
  clear ver
  have nlo : (32 : Int) ≤ (NN : Int) := by have := HN1.out; omega
  have nhi : (NN : Int) ≤ 128 := by have := HN1.out; omega
  by_cases hneg : bit < 0
  case pos =>
    go_wp2
    go_ret
    exact ⟨rfl, bel1⟩
  by_cases hbig : 2 * (NN : Int) ≤ bit
  case pos =>
    go_wp2
    go_ret
    exact ⟨rfl, bel1⟩
  obtain ⟨j, r, hjr, hr8⟩ : ∃ j r : Nat, bit = ((8 * j + r : Nat) : Int) ∧ r < 8 := ⟨bit.toNat / 8, bit.toNat % 8, by omega, by omega⟩
  have HJR : Hid (bit = ((8 * j + r : Nat) : Int)) := hjr
  have HR8 : Hid (r < 8) := hr8
  have HBIG : Hid (¬ 2 * (NN : Int) ≤ bit) := hbig
  have hbig2 : bit < 2 * (NN : Int) := by omega
  have hneg2 : (0 : Int) ≤ bit := by omega
  have w2N : IntKind.i64.wrap (2 * (NN : Int)) = 2 * (NN : Int) := by rw [IntKind.wrap_i64]; omega
  clear hjr hr8
  go_upto_region 7 with fail
  clear w2N
  go_wp2_with (first | (refine wpList_load_ip (.tmp 5) rfl B V x rfl HX1.out rfl ?_) | (refine wpList_load_ip (.tmp 6) rfl (B + 1) U y rfl HY1.out rfl ?_) | (refine wpList_alloc_ip rfl rfl ?_) | (refine wpList_store_ip (.tmp 13) (.tmp 40) rfl rfl w1.heap.size 0 V (fun _ => 0) x rfl rfl (heap_alloc_new _ _) rfl ?_))
  intro w2 hA2 k2
  have hb2 := ip_stored k2
  obtain ⟨A0, hA0⟩ : ∃ A0, A0 = w1.heap.size := ⟨_, rfl⟩
  rw [← hA0] at hA2 ⊢
  have HA0 : Hid (B + 4 ≤ A0 ∧ w.heap.size ≤ A0) := by have := HB1.out; have := HBO.out.1; exact ⟨by omega, by omega⟩
  have HA2 : Hid (IpRow w2 A0 (ipCells V x)) := hA2
  clear hA2 k2 hA0
  have bel2 := bthen bel1 hb2
  have HX2 : Hid (Boxed w2 B V x) := HX1.out.old hb2
  have HY2 : Hid (Boxed w2 (B + 1) U y) := HY1.out.old hb2
  have HRU2 : Hid (UAt w2 O u da n c) := UAt.below HRU1.out hb2
  have HRT2 : Hid (TAt w2 O2 t la ln lc dt mt ct) := TAt.below HRT1.out hb2
  clear HX1 HY1 HRU1 HRT1
  clear hb2
  go_wp2_with (first | (refine wpList_load_ip (.tmp 5) rfl B V x rfl HX2.out rfl ?_) | (refine wpList_load_ip (.tmp 6) rfl (B + 1) U y rfl HY2.out rfl ?_) | (refine wpList_alloc_ip rfl rfl ?_) | (refine wpList_store_ip (.tmp 14) (.tmp 41) rfl rfl w2.heap.size 0 U (fun _ => 0) y rfl rfl (heap_alloc_new _ _) rfl ?_))
  intro w3 hZ3 k3
  have hb3 := ip_stored k3
  obtain ⟨Z0, hZ0⟩ : ∃ Z0, Z0 = w2.heap.size := ⟨_, rfl⟩
  rw [← hZ0] at hZ3 ⊢
  have HZ0 : Hid (A0 < Z0) := by rw [hZ0]; exact HA2.out.lt
  have HZ3 : Hid (IpRow w3 Z0 (ipCells U y)) := hZ3
  clear hZ3 k3 hZ0
  have bel3 := bthen bel2 hb3
  have HX3 : Hid (Boxed w3 B V x) := HX2.out.old hb3
  have HY3 : Hid (Boxed w3 (B + 1) U y) := HY2.out.old hb3
  have HRU3 : Hid (UAt w3 O u da n c) := UAt.below HRU2.out hb3
  have HRT3 : Hid (TAt w3 O2 t la ln lc dt mt ct) := TAt.below HRT2.out hb3
  have HA3 : Hid (IpRow w3 A0 (ipCells V x)) := IpRow.below HA2.out hb3
  clear HX2 HY2 HRU2 HRT2 HA2
  clear hb3
  go_upto_if 44 with fail
  go_cut [] (fun wx => ∃ x' y', Boxed wx A0 V x' ∧ Boxed wx Z0 U y' ∧ Tu V x y x' y' j r ∧ Boxed wx B V x ∧ Boxed wx (B + 1) U y ∧ UAt wx O u da n c ∧ TAt wx O2 t la ln lc dt mt ct ∧ Below w.heap.size w wx)
  case first =>
    by_cases hlow : bit < (NN : Int)
    · have hjn : j < nb := by have := HJR.out; have := HNN.out; omega
      have qa : bit / 8 = (j : Int) := by have := HJR.out; have := HR8.out; omega
      have c1 : (0 : Int) ≤ bit := by omega
      have c2 : bit ≤ 255 := by omega
      obtain ⟨z, hz⟩ : ∃ z, z = x j := ⟨_, rfl⟩
      have HZE : Hid (z = x j) := hz
      have hz2 : z < 256 := by rw [hz]; exact HX.out j (by have := HN1.out; have := HNN.out; omega)
      have hi16 : j < 16 := by have := HN1.out; have := HNN.out; omega
      have cel : w3.cell? ⟨A0, 1 + j, none⟩ = some (.int .u8 (z : Int)) := by rw [hz]; exact (ipRow_boxed HA3.out).byte j hi16
      have frz : w3.frozen? ⟨A0, 1 + j, none⟩ = false := HA3.out.fz _
      have HI16 : Hid (j < 16) := hi16
      have hxx : ∀ m : Nat, m < 256 → bits .xor .u8 (z : Int) (m : Int) = ((z ^^^ m : Nat) : Int) := fun m hm => u8_xor_nat z m hz2 hm
      have x128 : bits .xor .u8 (z : Int) 128 = ((z ^^^ 2 ^ 7 : Nat) : Int) := hxx 128 (by decide)
      have x64 : bits .xor .u8 (z : Int) 64 = ((z ^^^ 2 ^ 6 : Nat) : Int) := hxx 64 (by decide)
      have x32 : bits .xor .u8 (z : Int) 32 = ((z ^^^ 2 ^ 5 : Nat) : Int) := hxx 32 (by decide)
      have x16 : bits .xor .u8 (z : Int) 16 = ((z ^^^ 2 ^ 4 : Nat) : Int) := hxx 16 (by decide)
      have x8 : bits .xor .u8 (z : Int) 8 = ((z ^^^ 2 ^ 3 : Nat) : Int) := hxx 8 (by decide)
      have x4 : bits .xor .u8 (z : Int) 4 = ((z ^^^ 2 ^ 2 : Nat) : Int) := hxx 4 (by decide)
      have x2 : bits .xor .u8 (z : Int) 2 = ((z ^^^ 2 ^ 1 : Nat) : Int) := hxx 2 (by decide)
      have x1 : bits .xor .u8 (z : Int) 1 = ((z ^^^ 2 ^ 0 : Nat) : Int) := hxx 1 (by decide)
      obtain ⟨y7, hy7⟩ : ∃ y, y = z ^^^ 2 ^ 7 := ⟨_, rfl⟩
      rw [← hy7] at x128
      have HQ7 : Hid (y7 = z ^^^ 2 ^ 7) := hy7
      obtain ⟨y6, hy6⟩ : ∃ y, y = z ^^^ 2 ^ 6 := ⟨_, rfl⟩
      rw [← hy6] at x64
      have HQ6 : Hid (y6 = z ^^^ 2 ^ 6) := hy6
      obtain ⟨y5, hy5⟩ : ∃ y, y = z ^^^ 2 ^ 5 := ⟨_, rfl⟩
      rw [← hy5] at x32
      have HQ5 : Hid (y5 = z ^^^ 2 ^ 5) := hy5
      obtain ⟨y4, hy4⟩ : ∃ y, y = z ^^^ 2 ^ 4 := ⟨_, rfl⟩
      rw [← hy4] at x16
      have HQ4 : Hid (y4 = z ^^^ 2 ^ 4) := hy4
      obtain ⟨y3, hy3⟩ : ∃ y, y = z ^^^ 2 ^ 3 := ⟨_, rfl⟩
      rw [← hy3] at x8
      have HQ3 : Hid (y3 = z ^^^ 2 ^ 3) := hy3
      obtain ⟨y2, hy2⟩ : ∃ y, y = z ^^^ 2 ^ 2 := ⟨_, rfl⟩
      rw [← hy2] at x4
      have HQ2 : Hid (y2 = z ^^^ 2 ^ 2) := hy2
      obtain ⟨y1, hy1⟩ : ∃ y, y = z ^^^ 2 ^ 1 := ⟨_, rfl⟩
      rw [← hy1] at x2
      have HQ1 : Hid (y1 = z ^^^ 2 ^ 1) := hy1
      obtain ⟨y0, hy0⟩ : ∃ y, y = z ^^^ 2 ^ 0 := ⟨_, rfl⟩
      rw [← hy0] at x1
      have HQ0 : Hid (y0 = z ^^^ 2 ^ 0) := hy0
      have i0 : (0 : Int) ≤ (j : Int) := by omega
      have i1 : (j : Int) < 16 := by omega
      have i2 : ((j : Int)).toNat = j := by omega
      clear hz hz2 hxx hi16 hy0 hy1 hy2 hy3 hy4 hy5 hy6 hy7
      have hrr : r = 0 ∨ r = 1 ∨ r = 2 ∨ r = 3 ∨ r = 4 ∨ r = 5 ∨ r = 6 ∨ r = 7 := by have := HR8.out; omega
      rcases hrr with rfl | rfl | rfl | rfl | rfl | rfl | rfl | rfl
      · have qr : bit % 8 = 0 := by have := HJR.out; omega
        go_wp2
        refine Mix.start (by kernel_rfl) ?_
        obtain ⟨wM, hwM⟩ : ∃ wM, wM = w3.drew := ⟨_, rfl⟩
        have cel' : wM.cell? ⟨A0, 1 + j, none⟩ = some (.int .u8 (z : Int)) := by rw [hwM]; exact cel
        have frz' : wM.frozen? ⟨A0, 1 + j, none⟩ = false := by rw [hwM]; exact frz
        have HBM : Hid (Below w3.heap.size w3 wM) := by rw [hwM]; exact (Below.refl _ _).drew
        rw [← hwM]
        clear hwM cel frz
        refine Mix.take [true, true, true, true, true, true, false, true, true, true, false, true] 4 (by kernel_rfl) (by kernel_rfl) (by decide) (by kernel_rfl) (fun K hK => ?_)
        simp only [Mix.pick]
        repeat (go_big_quiet_step (fail))
        refine wpQuiet_nil (hK _ ?_)
        clear hK K
        refine Mix.one [false, false, false, false, false, false, true] 3 6 _ rfl rfl (by kernel_rfl) (by kernel_rfl) (fun K hK => ?_)
        simp only [Mix.pick]
        go_wp2
        refine ⟨rfl, hK _ _ ?_⟩
        clear hK K
        refine Mix.take [false, false, false, false, false, false, false, false, false, false, true, false, true] 1 (by kernel_rfl) (by kernel_rfl) (by decide) (by kernel_rfl) (fun K hK => ?_)
        simp only [Mix.pick]
        repeat (go_big_quiet_step (fail))
        refine wpQuiet_nil (hK _ ?_)
        clear hK K
        refine Mix.one [false, false, false, false, false, false, false, false, false, false, false, false, false, true] 0 13 _ rfl rfl (by kernel_rfl) (by kernel_rfl) (fun K hK => ?_)
        simp only [Mix.pick]
        go_wp2
        refine ⟨rfl, hK _ _ ?_⟩
        clear hK K
        refine Mix.done (by kernel_rfl) ?_
        go_wp2
        go_meet
        have hn4 := HBO.out
        have hn5 := HA0.out
        have hn6 := HZ0.out
        have belM := bthen bel3 HBM.out
        have chM : Ch (fun q => q = A0) wM (wM.setCell ⟨A0, 1 + j, none⟩ (.int .u8 (y7 : Int))) := (Ch.refl (fun q => q = A0) wM).set ⟨A0, 1 + j, none⟩ _ rfl
        have e7 : (7 - 0 : Nat) = 7 := rfl
        refine ⟨upd x j y7, y, ipRow_boxed (ipRow_set (IpRow.below HA3.out HBM.out) j y7 HI16.out), boxed_far ((ipRow_boxed HZ3.out).old HBM.out) A0 (1 + j) _ (by omega), .inl ⟨by have := HNB.out; have := HNN.out; omega, by rw [e7, HQ7.out, HZE.out], rfl⟩, boxed_far (HX3.out.old HBM.out) A0 (1 + j) _ (by omega), boxed_far (HY3.out.old HBM.out) A0 (1 + j) _ (by omega), UAt.ch (UAt.below HRU3.out HBM.out) chM (by omega), TAt.ch (TAt.below HRT3.out HBM.out) chM (by omega), belM.trans (chM.below (fun q e => by have e' : q = A0 := e; omega) belM.size)⟩
      · have qr : bit % 8 = 1 := by have := HJR.out; omega
        go_wp2
        refine Mix.start (by kernel_rfl) ?_
        obtain ⟨wM, hwM⟩ : ∃ wM, wM = w3.drew := ⟨_, rfl⟩
        have cel' : wM.cell? ⟨A0, 1 + j, none⟩ = some (.int .u8 (z : Int)) := by rw [hwM]; exact cel
        have frz' : wM.frozen? ⟨A0, 1 + j, none⟩ = false := by rw [hwM]; exact frz
        have HBM : Hid (Below w3.heap.size w3 wM) := by rw [hwM]; exact (Below.refl _ _).drew
        rw [← hwM]
        clear hwM cel frz
        refine Mix.take [true, true, true, true, true, true, false, true, true, true, false, true] 4 (by kernel_rfl) (by kernel_rfl) (by decide) (by kernel_rfl) (fun K hK => ?_)
        simp only [Mix.pick]
        repeat (go_big_quiet_step (fail))
        refine wpQuiet_nil (hK _ ?_)
        clear hK K
        refine Mix.one [false, false, false, false, false, false, true] 3 6 _ rfl rfl (by kernel_rfl) (by kernel_rfl) (fun K hK => ?_)
        simp only [Mix.pick]
        go_wp2
        refine ⟨rfl, hK _ _ ?_⟩
        clear hK K
        refine Mix.take [false, false, false, false, false, false, false, false, false, false, true, false, true] 1 (by kernel_rfl) (by kernel_rfl) (by decide) (by kernel_rfl) (fun K hK => ?_)
        simp only [Mix.pick]
        repeat (go_big_quiet_step (fail))
        refine wpQuiet_nil (hK _ ?_)
        clear hK K
        refine Mix.one [false, false, false, false, false, false, false, false, false, false, false, false, false, true] 0 13 _ rfl rfl (by kernel_rfl) (by kernel_rfl) (fun K hK => ?_)
        simp only [Mix.pick]
        go_wp2
        refine ⟨rfl, hK _ _ ?_⟩
        clear hK K
        refine Mix.done (by kernel_rfl) ?_
        go_wp2
        go_meet
        have hn4 := HBO.out
        have hn5 := HA0.out
        have hn6 := HZ0.out
        have belM := bthen bel3 HBM.out
        have chM : Ch (fun q => q = A0) wM (wM.setCell ⟨A0, 1 + j, none⟩ (.int .u8 (y6 : Int))) := (Ch.refl (fun q => q = A0) wM).set ⟨A0, 1 + j, none⟩ _ rfl
        have e7 : (7 - 1 : Nat) = 6 := rfl
        refine ⟨upd x j y6, y, ipRow_boxed (ipRow_set (IpRow.below HA3.out HBM.out) j y6 HI16.out), boxed_far ((ipRow_boxed HZ3.out).old HBM.out) A0 (1 + j) _ (by omega), .inl ⟨by have := HNB.out; have := HNN.out; omega, by rw [e7, HQ6.out, HZE.out], rfl⟩, boxed_far (HX3.out.old HBM.out) A0 (1 + j) _ (by omega), boxed_far (HY3.out.old HBM.out) A0 (1 + j) _ (by omega), UAt.ch (UAt.below HRU3.out HBM.out) chM (by omega), TAt.ch (TAt.below HRT3.out HBM.out) chM (by omega), belM.trans (chM.below (fun q e => by have e' : q = A0 := e; omega) belM.size)⟩
      · have qr : bit % 8 = 2 := by have := HJR.out; omega
        go_wp2
        refine Mix.start (by kernel_rfl) ?_
        obtain ⟨wM, hwM⟩ : ∃ wM, wM = w3.drew := ⟨_, rfl⟩
        have cel' : wM.cell? ⟨A0, 1 + j, none⟩ = some (.int .u8 (z : Int)) := by rw [hwM]; exact cel
        have frz' : wM.frozen? ⟨A0, 1 + j, none⟩ = false := by rw [hwM]; exact frz
        have HBM : Hid (Below w3.heap.size w3 wM) := by rw [hwM]; exact (Below.refl _ _).drew
        rw [← hwM]
        clear hwM cel frz
        refine Mix.take [true, true, true, true, true, true, false, true, true, true, false, true] 4 (by kernel_rfl) (by kernel_rfl) (by decide) (by kernel_rfl) (fun K hK => ?_)
        simp only [Mix.pick]
        repeat (go_big_quiet_step (fail))
        refine wpQuiet_nil (hK _ ?_)
        clear hK K
        refine Mix.one [false, false, false, false, false, false, true] 3 6 _ rfl rfl (by kernel_rfl) (by kernel_rfl) (fun K hK => ?_)
        simp only [Mix.pick]
        go_wp2
        refine ⟨rfl, hK _ _ ?_⟩
        clear hK K
        refine Mix.take [false, false, false, false, false, false, false, false, false, false, true, false, true] 1 (by kernel_rfl) (by kernel_rfl) (by decide) (by kernel_rfl) (fun K hK => ?_)
        simp only [Mix.pick]
        repeat (go_big_quiet_step (fail))
        refine wpQuiet_nil (hK _ ?_)
        clear hK K
        refine Mix.one [false, false, false, false, false, false, false, false, false, false, false, false, false, true] 0 13 _ rfl rfl (by kernel_rfl) (by kernel_rfl) (fun K hK => ?_)
        simp only [Mix.pick]
        go_wp2
        refine ⟨rfl, hK _ _ ?_⟩
        clear hK K
        refine Mix.done (by kernel_rfl) ?_
        go_wp2
        go_meet
        have hn4 := HBO.out
        have hn5 := HA0.out
        have hn6 := HZ0.out
        have belM := bthen bel3 HBM.out
        have chM : Ch (fun q => q = A0) wM (wM.setCell ⟨A0, 1 + j, none⟩ (.int .u8 (y5 : Int))) := (Ch.refl (fun q => q = A0) wM).set ⟨A0, 1 + j, none⟩ _ rfl
        have e7 : (7 - 2 : Nat) = 5 := rfl
        refine ⟨upd x j y5, y, ipRow_boxed (ipRow_set (IpRow.below HA3.out HBM.out) j y5 HI16.out), boxed_far ((ipRow_boxed HZ3.out).old HBM.out) A0 (1 + j) _ (by omega), .inl ⟨by have := HNB.out; have := HNN.out; omega, by rw [e7, HQ5.out, HZE.out], rfl⟩, boxed_far (HX3.out.old HBM.out) A0 (1 + j) _ (by omega), boxed_far (HY3.out.old HBM.out) A0 (1 + j) _ (by omega), UAt.ch (UAt.below HRU3.out HBM.out) chM (by omega), TAt.ch (TAt.below HRT3.out HBM.out) chM (by omega), belM.trans (chM.below (fun q e => by have e' : q = A0 := e; omega) belM.size)⟩
      · have qr : bit % 8 = 3 := by have := HJR.out; omega
        go_wp2
        refine Mix.start (by kernel_rfl) ?_
        obtain ⟨wM, hwM⟩ : ∃ wM, wM = w3.drew := ⟨_, rfl⟩
        have cel' : wM.cell? ⟨A0, 1 + j, none⟩ = some (.int .u8 (z : Int)) := by rw [hwM]; exact cel
        have frz' : wM.frozen? ⟨A0, 1 + j, none⟩ = false := by rw [hwM]; exact frz
        have HBM : Hid (Below w3.heap.size w3 wM) := by rw [hwM]; exact (Below.refl _ _).drew
        rw [← hwM]
        clear hwM cel frz
        refine Mix.take [true, true, true, true, true, true, false, true, true, true, false, true] 4 (by kernel_rfl) (by kernel_rfl) (by decide) (by kernel_rfl) (fun K hK => ?_)
        simp only [Mix.pick]
        repeat (go_big_quiet_step (fail))
        refine wpQuiet_nil (hK _ ?_)
        clear hK K
        refine Mix.one [false, false, false, false, false, false, true] 3 6 _ rfl rfl (by kernel_rfl) (by kernel_rfl) (fun K hK => ?_)
        simp only [Mix.pick]
        go_wp2
        refine ⟨rfl, hK _ _ ?_⟩
        clear hK K
        refine Mix.take [false, false, false, false, false, false, false, false, false, false, true, false, true] 1 (by kernel_rfl) (by kernel_rfl) (by decide) (by kernel_rfl) (fun K hK => ?_)
        simp only [Mix.pick]
        repeat (go_big_quiet_step (fail))
        refine wpQuiet_nil (hK _ ?_)
        clear hK K
        refine Mix.one [false, false, false, false, false, false, false, false, false, false, false, false, false, true] 0 13 _ rfl rfl (by kernel_rfl) (by kernel_rfl) (fun K hK => ?_)
        simp only [Mix.pick]
        go_wp2
        refine ⟨rfl, hK _ _ ?_⟩
        clear hK K
        refine Mix.done (by kernel_rfl) ?_
        go_wp2
        go_meet
        have hn4 := HBO.out
        have hn5 := HA0.out
        have hn6 := HZ0.out
        have belM := bthen bel3 HBM.out
        have chM : Ch (fun q => q = A0) wM (wM.setCell ⟨A0, 1 + j, none⟩ (.int .u8 (y4 : Int))) := (Ch.refl (fun q => q = A0) wM).set ⟨A0, 1 + j, none⟩ _ rfl
        have e7 : (7 - 3 : Nat) = 4 := rfl
        refine ⟨upd x j y4, y, ipRow_boxed (ipRow_set (IpRow.below HA3.out HBM.out) j y4 HI16.out), boxed_far ((ipRow_boxed HZ3.out).old HBM.out) A0 (1 + j) _ (by omega), .inl ⟨by have := HNB.out; have := HNN.out; omega, by rw [e7, HQ4.out, HZE.out], rfl⟩, boxed_far (HX3.out.old HBM.out) A0 (1 + j) _ (by omega), boxed_far (HY3.out.old HBM.out) A0 (1 + j) _ (by omega), UAt.ch (UAt.below HRU3.out HBM.out) chM (by omega), TAt.ch (TAt.below HRT3.out HBM.out) chM (by omega), belM.trans (chM.below (fun q e => by have e' : q = A0 := e; omega) belM.size)⟩
      · have qr : bit % 8 = 4 := by have := HJR.out; omega
        go_wp2
        refine Mix.start (by kernel_rfl) ?_
        obtain ⟨wM, hwM⟩ : ∃ wM, wM = w3.drew := ⟨_, rfl⟩
        have cel' : wM.cell? ⟨A0, 1 + j, none⟩ = some (.int .u8 (z : Int)) := by rw [hwM]; exact cel
        have frz' : wM.frozen? ⟨A0, 1 + j, none⟩ = false := by rw [hwM]; exact frz
        have HBM : Hid (Below w3.heap.size w3 wM) := by rw [hwM]; exact (Below.refl _ _).drew
        rw [← hwM]
        clear hwM cel frz
        refine Mix.take [true, true, true, true, true, true, false, true, true, true, false, true] 4 (by kernel_rfl) (by kernel_rfl) (by decide) (by kernel_rfl) (fun K hK => ?_)
        simp only [Mix.pick]
        repeat (go_big_quiet_step (fail))
        refine wpQuiet_nil (hK _ ?_)
        clear hK K
        refine Mix.one [false, false, false, false, false, false, true] 3 6 _ rfl rfl (by kernel_rfl) (by kernel_rfl) (fun K hK => ?_)
        simp only [Mix.pick]
        go_wp2
        refine ⟨rfl, hK _ _ ?_⟩
        clear hK K
        refine Mix.take [false, false, false, false, false, false, false, false, false, false, true, false, true] 1 (by kernel_rfl) (by kernel_rfl) (by decide) (by kernel_rfl) (fun K hK => ?_)
        simp only [Mix.pick]
        repeat (go_big_quiet_step (fail))
        refine wpQuiet_nil (hK _ ?_)
        clear hK K
        refine Mix.one [false, false, false, false, false, false, false, false, false, false, false, false, false, true] 0 13 _ rfl rfl (by kernel_rfl) (by kernel_rfl) (fun K hK => ?_)
        simp only [Mix.pick]
        go_wp2
        refine ⟨rfl, hK _ _ ?_⟩
        clear hK K
        refine Mix.done (by kernel_rfl) ?_
        go_wp2
        go_meet
        have hn4 := HBO.out
        have hn5 := HA0.out
        have hn6 := HZ0.out
        have belM := bthen bel3 HBM.out
        have chM : Ch (fun q => q = A0) wM (wM.setCell ⟨A0, 1 + j, none⟩ (.int .u8 (y3 : Int))) := (Ch.refl (fun q => q = A0) wM).set ⟨A0, 1 + j, none⟩ _ rfl
        have e7 : (7 - 4 : Nat) = 3 := rfl
        refine ⟨upd x j y3, y, ipRow_boxed (ipRow_set (IpRow.below HA3.out HBM.out) j y3 HI16.out), boxed_far ((ipRow_boxed HZ3.out).old HBM.out) A0 (1 + j) _ (by omega), .inl ⟨by have := HNB.out; have := HNN.out; omega, by rw [e7, HQ3.out, HZE.out], rfl⟩, boxed_far (HX3.out.old HBM.out) A0 (1 + j) _ (by omega), boxed_far (HY3.out.old HBM.out) A0 (1 + j) _ (by omega), UAt.ch (UAt.below HRU3.out HBM.out) chM (by omega), TAt.ch (TAt.below HRT3.out HBM.out) chM (by omega), belM.trans (chM.below (fun q e => by have e' : q = A0 := e; omega) belM.size)⟩
      · have qr : bit % 8 = 5 := by have := HJR.out; omega
        go_wp2
        refine Mix.start (by kernel_rfl) ?_
        obtain ⟨wM, hwM⟩ : ∃ wM, wM = w3.drew := ⟨_, rfl⟩
        have cel' : wM.cell? ⟨A0, 1 + j, none⟩ = some (.int .u8 (z : Int)) := by rw [hwM]; exact cel
        have frz' : wM.frozen? ⟨A0, 1 + j, none⟩ = false := by rw [hwM]; exact frz
        have HBM : Hid (Below w3.heap.size w3 wM) := by rw [hwM]; exact (Below.refl _ _).drew
        rw [← hwM]
        clear hwM cel frz
        refine Mix.take [true, true, true, true, true, true, false, true, true, true, false, true] 4 (by kernel_rfl) (by kernel_rfl) (by decide) (by kernel_rfl) (fun K hK => ?_)
        simp only [Mix.pick]
        repeat (go_big_quiet_step (fail))
        refine wpQuiet_nil (hK _ ?_)
        clear hK K
        refine Mix.one [false, false, false, false, false, false, true] 3 6 _ rfl rfl (by kernel_rfl) (by kernel_rfl) (fun K hK => ?_)
        simp only [Mix.pick]
        go_wp2
        refine ⟨rfl, hK _ _ ?_⟩
        clear hK K
        refine Mix.take [false, false, false, false, false, false, false, false, false, false, true, false, true] 1 (by kernel_rfl) (by kernel_rfl) (by decide) (by kernel_rfl) (fun K hK => ?_)
        simp only [Mix.pick]
        repeat (go_big_quiet_step (fail))
        refine wpQuiet_nil (hK _ ?_)
        clear hK K
        refine Mix.one [false, false, false, false, false, false, false, false, false, false, false, false, false, true] 0 13 _ rfl rfl (by kernel_rfl) (by kernel_rfl) (fun K hK => ?_)
        simp only [Mix.pick]
        go_wp2
        refine ⟨rfl, hK _ _ ?_⟩
        clear hK K
        refine Mix.done (by kernel_rfl) ?_
        go_wp2
        go_meet
        have hn4 := HBO.out
        have hn5 := HA0.out
        have hn6 := HZ0.out
        have belM := bthen bel3 HBM.out
        have chM : Ch (fun q => q = A0) wM (wM.setCell ⟨A0, 1 + j, none⟩ (.int .u8 (y2 : Int))) := (Ch.refl (fun q => q = A0) wM).set ⟨A0, 1 + j, none⟩ _ rfl
        have e7 : (7 - 5 : Nat) = 2 := rfl
        refine ⟨upd x j y2, y, ipRow_boxed (ipRow_set (IpRow.below HA3.out HBM.out) j y2 HI16.out), boxed_far ((ipRow_boxed HZ3.out).old HBM.out) A0 (1 + j) _ (by omega), .inl ⟨by have := HNB.out; have := HNN.out; omega, by rw [e7, HQ2.out, HZE.out], rfl⟩, boxed_far (HX3.out.old HBM.out) A0 (1 + j) _ (by omega), boxed_far (HY3.out.old HBM.out) A0 (1 + j) _ (by omega), UAt.ch (UAt.below HRU3.out HBM.out) chM (by omega), TAt.ch (TAt.below HRT3.out HBM.out) chM (by omega), belM.trans (chM.below (fun q e => by have e' : q = A0 := e; omega) belM.size)⟩
      · have qr : bit % 8 = 6 := by have := HJR.out; omega
        go_wp2
        refine Mix.start (by kernel_rfl) ?_
        obtain ⟨wM, hwM⟩ : ∃ wM, wM = w3.drew := ⟨_, rfl⟩
        have cel' : wM.cell? ⟨A0, 1 + j, none⟩ = some (.int .u8 (z : Int)) := by rw [hwM]; exact cel
        have frz' : wM.frozen? ⟨A0, 1 + j, none⟩ = false := by rw [hwM]; exact frz
        have HBM : Hid (Below w3.heap.size w3 wM) := by rw [hwM]; exact (Below.refl _ _).drew
        rw [← hwM]
        clear hwM cel frz
        refine Mix.take [true, true, true, true, true, true, false, true, true, true, false, true] 4 (by kernel_rfl) (by kernel_rfl) (by decide) (by kernel_rfl) (fun K hK => ?_)
        simp only [Mix.pick]
        repeat (go_big_quiet_step (fail))
        refine wpQuiet_nil (hK _ ?_)
        clear hK K
        refine Mix.one [false, false, false, false, false, false, true] 3 6 _ rfl rfl (by kernel_rfl) (by kernel_rfl) (fun K hK => ?_)
        simp only [Mix.pick]
        go_wp2
        refine ⟨rfl, hK _ _ ?_⟩
        clear hK K
        refine Mix.take [false, false, false, false, false, false, false, false, false, false, true, false, true] 1 (by kernel_rfl) (by kernel_rfl) (by decide) (by kernel_rfl) (fun K hK => ?_)
        simp only [Mix.pick]
        repeat (go_big_quiet_step (fail))
        refine wpQuiet_nil (hK _ ?_)
        clear hK K
        refine Mix.one [false, false, false, false, false, false, false, false, false, false, false, false, false, true] 0 13 _ rfl rfl (by kernel_rfl) (by kernel_rfl) (fun K hK => ?_)
        simp only [Mix.pick]
        go_wp2
        refine ⟨rfl, hK _ _ ?_⟩
        clear hK K
        refine Mix.done (by kernel_rfl) ?_
        go_wp2
        go_meet
        have hn4 := HBO.out
        have hn5 := HA0.out
        have hn6 := HZ0.out
        have belM := bthen bel3 HBM.out
        have chM : Ch (fun q => q = A0) wM (wM.setCell ⟨A0, 1 + j, none⟩ (.int .u8 (y1 : Int))) := (Ch.refl (fun q => q = A0) wM).set ⟨A0, 1 + j, none⟩ _ rfl
        have e7 : (7 - 6 : Nat) = 1 := rfl
        refine ⟨upd x j y1, y, ipRow_boxed (ipRow_set (IpRow.below HA3.out HBM.out) j y1 HI16.out), boxed_far ((ipRow_boxed HZ3.out).old HBM.out) A0 (1 + j) _ (by omega), .inl ⟨by have := HNB.out; have := HNN.out; omega, by rw [e7, HQ1.out, HZE.out], rfl⟩, boxed_far (HX3.out.old HBM.out) A0 (1 + j) _ (by omega), boxed_far (HY3.out.old HBM.out) A0 (1 + j) _ (by omega), UAt.ch (UAt.below HRU3.out HBM.out) chM (by omega), TAt.ch (TAt.below HRT3.out HBM.out) chM (by omega), belM.trans (chM.below (fun q e => by have e' : q = A0 := e; omega) belM.size)⟩
      · have qr : bit % 8 = 7 := by have := HJR.out; omega
        go_wp2
        refine Mix.start (by kernel_rfl) ?_
        obtain ⟨wM, hwM⟩ : ∃ wM, wM = w3.drew := ⟨_, rfl⟩
        have cel' : wM.cell? ⟨A0, 1 + j, none⟩ = some (.int .u8 (z : Int)) := by rw [hwM]; exact cel
        have frz' : wM.frozen? ⟨A0, 1 + j, none⟩ = false := by rw [hwM]; exact frz
        have HBM : Hid (Below w3.heap.size w3 wM) := by rw [hwM]; exact (Below.refl _ _).drew
        rw [← hwM]
        clear hwM cel frz
        refine Mix.take [true, true, true, true, true, true, false, true, true, true, false, true] 4 (by kernel_rfl) (by kernel_rfl) (by decide) (by kernel_rfl) (fun K hK => ?_)
        simp only [Mix.pick]
        repeat (go_big_quiet_step (fail))
        refine wpQuiet_nil (hK _ ?_)
        clear hK K
        refine Mix.one [false, false, false, false, false, false, true] 3 6 _ rfl rfl (by kernel_rfl) (by kernel_rfl) (fun K hK => ?_)
        simp only [Mix.pick]
        go_wp2
        refine ⟨rfl, hK _ _ ?_⟩
        clear hK K
        refine Mix.take [false, false, false, false, false, false, false, false, false, false, true, false, true] 1 (by kernel_rfl) (by kernel_rfl) (by decide) (by kernel_rfl) (fun K hK => ?_)
        simp only [Mix.pick]
        repeat (go_big_quiet_step (fail))
        refine wpQuiet_nil (hK _ ?_)
        clear hK K
        refine Mix.one [false, false, false, false, false, false, false, false, false, false, false, false, false, true] 0 13 _ rfl rfl (by kernel_rfl) (by kernel_rfl) (fun K hK => ?_)
        simp only [Mix.pick]
        go_wp2
        refine ⟨rfl, hK _ _ ?_⟩
        clear hK K
        refine Mix.done (by kernel_rfl) ?_
        go_wp2
        go_meet
        have hn4 := HBO.out
        have hn5 := HA0.out
        have hn6 := HZ0.out
        have belM := bthen bel3 HBM.out
        have chM : Ch (fun q => q = A0) wM (wM.setCell ⟨A0, 1 + j, none⟩ (.int .u8 (y0 : Int))) := (Ch.refl (fun q => q = A0) wM).set ⟨A0, 1 + j, none⟩ _ rfl
        have e7 : (7 - 7 : Nat) = 0 := rfl
        refine ⟨upd x j y0, y, ipRow_boxed (ipRow_set (IpRow.below HA3.out HBM.out) j y0 HI16.out), boxed_far ((ipRow_boxed HZ3.out).old HBM.out) A0 (1 + j) _ (by omega), .inl ⟨by have := HNB.out; have := HNN.out; omega, by rw [e7, HQ0.out, HZE.out], rfl⟩, boxed_far (HX3.out.old HBM.out) A0 (1 + j) _ (by omega), boxed_far (HY3.out.old HBM.out) A0 (1 + j) _ (by omega), UAt.ch (UAt.below HRU3.out HBM.out) chM (by omega), TAt.ch (TAt.below HRT3.out HBM.out) chM (by omega), belM.trans (chM.below (fun q e => by have e' : q = A0 := e; omega) belM.size)⟩
    · obtain ⟨i, hji⟩ : ∃ i, j = nb + i := ⟨j - nb, by have := HJR.out; have := HNN.out; have := HR8.out; omega⟩
      have hin : i < nb := by have := HBIG.out; have := HJR.out; have := HNN.out; omega
      have qa : bit / 8 = (j : Int) := by have := HJR.out; have := HR8.out; omega
      have qn : (NN : Int) / 8 = (nb : Int) := by have := HNN.out; omega
      have qs : (j : Int) - (nb : Int) = (i : Int) := by omega
      have HJI : Hid (j = nb + i) := hji
      have c1 : (0 : Int) ≤ bit := by omega
      have c2 : bit ≤ 255 := by omega
      have nb1 : (nb : Int) ≤ 16 := by have := HNN.out; omega
      have nb0 : (0 : Int) ≤ (nb : Int) := by omega
      have jj1 : (j : Int) ≤ 32 := by omega
      clear hji
      obtain ⟨z, hz⟩ : ∃ z, z = y i := ⟨_, rfl⟩
      have HZE : Hid (z = y i) := hz
      have hz2 : z < 256 := by rw [hz]; exact HY.out i (by have := HN1.out; have := HNN.out; omega)
      have hi16 : i < 16 := by have := HN1.out; have := HNN.out; omega
      have cel : w3.cell? ⟨Z0, 1 + i, none⟩ = some (.int .u8 (z : Int)) := by rw [hz]; exact (ipRow_boxed HZ3.out).byte i hi16
      have frz : w3.frozen? ⟨Z0, 1 + i, none⟩ = false := HZ3.out.fz _
      have HI16 : Hid (i < 16) := hi16
      have hxx : ∀ m : Nat, m < 256 → bits .xor .u8 (z : Int) (m : Int) = ((z ^^^ m : Nat) : Int) := fun m hm => u8_xor_nat z m hz2 hm
      have x128 : bits .xor .u8 (z : Int) 128 = ((z ^^^ 2 ^ 7 : Nat) : Int) := hxx 128 (by decide)
      have x64 : bits .xor .u8 (z : Int) 64 = ((z ^^^ 2 ^ 6 : Nat) : Int) := hxx 64 (by decide)
      have x32 : bits .xor .u8 (z : Int) 32 = ((z ^^^ 2 ^ 5 : Nat) : Int) := hxx 32 (by decide)
      have x16 : bits .xor .u8 (z : Int) 16 = ((z ^^^ 2 ^ 4 : Nat) : Int) := hxx 16 (by decide)
      have x8 : bits .xor .u8 (z : Int) 8 = ((z ^^^ 2 ^ 3 : Nat) : Int) := hxx 8 (by decide)
      have x4 : bits .xor .u8 (z : Int) 4 = ((z ^^^ 2 ^ 2 : Nat) : Int) := hxx 4 (by decide)
      have x2 : bits .xor .u8 (z : Int) 2 = ((z ^^^ 2 ^ 1 : Nat) : Int) := hxx 2 (by decide)
      have x1 : bits .xor .u8 (z : Int) 1 = ((z ^^^ 2 ^ 0 : Nat) : Int) := hxx 1 (by decide)
      obtain ⟨y7, hy7⟩ : ∃ y, y = z ^^^ 2 ^ 7 := ⟨_, rfl⟩
      rw [← hy7] at x128
      have HQ7 : Hid (y7 = z ^^^ 2 ^ 7) := hy7
      obtain ⟨y6, hy6⟩ : ∃ y, y = z ^^^ 2 ^ 6 := ⟨_, rfl⟩
      rw [← hy6] at x64
      have HQ6 : Hid (y6 = z ^^^ 2 ^ 6) := hy6
      obtain ⟨y5, hy5⟩ : ∃ y, y = z ^^^ 2 ^ 5 := ⟨_, rfl⟩
      rw [← hy5] at x32
      have HQ5 : Hid (y5 = z ^^^ 2 ^ 5) := hy5
      obtain ⟨y4, hy4⟩ : ∃ y, y = z ^^^ 2 ^ 4 := ⟨_, rfl⟩
      rw [← hy4] at x16
      have HQ4 : Hid (y4 = z ^^^ 2 ^ 4) := hy4
      obtain ⟨y3, hy3⟩ : ∃ y, y = z ^^^ 2 ^ 3 := ⟨_, rfl⟩
      rw [← hy3] at x8
      have HQ3 : Hid (y3 = z ^^^ 2 ^ 3) := hy3
      obtain ⟨y2, hy2⟩ : ∃ y, y = z ^^^ 2 ^ 2 := ⟨_, rfl⟩
      rw [← hy2] at x4
      have HQ2 : Hid (y2 = z ^^^ 2 ^ 2) := hy2
      obtain ⟨y1, hy1⟩ : ∃ y, y = z ^^^ 2 ^ 1 := ⟨_, rfl⟩
      rw [← hy1] at x2
      have HQ1 : Hid (y1 = z ^^^ 2 ^ 1) := hy1
      obtain ⟨y0, hy0⟩ : ∃ y, y = z ^^^ 2 ^ 0 := ⟨_, rfl⟩
      rw [← hy0] at x1
      have HQ0 : Hid (y0 = z ^^^ 2 ^ 0) := hy0
      have i0 : (0 : Int) ≤ (i : Int) := by omega
      have i1 : (i : Int) < 16 := by omega
      have i2 : ((i : Int)).toNat = i := by omega
      clear hz hz2 hxx hi16 hy0 hy1 hy2 hy3 hy4 hy5 hy6 hy7
      have hrr : r = 0 ∨ r = 1 ∨ r = 2 ∨ r = 3 ∨ r = 4 ∨ r = 5 ∨ r = 6 ∨ r = 7 := by have := HR8.out; omega
      rcases hrr with rfl | rfl | rfl | rfl | rfl | rfl | rfl | rfl
      · have qr : bit % 8 = 0 := by have := HJR.out; omega
        go_wp2
        refine Mix.start (by kernel_rfl) ?_
        obtain ⟨wM, hwM⟩ : ∃ wM, wM = w3.drew := ⟨_, rfl⟩
        have cel' : wM.cell? ⟨Z0, 1 + i, none⟩ = some (.int .u8 (z : Int)) := by rw [hwM]; exact cel
        have frz' : wM.frozen? ⟨Z0, 1 + i, none⟩ = false := by rw [hwM]; exact frz
        have HBM : Hid (Below w3.heap.size w3 wM) := by rw [hwM]; exact (Below.refl _ _).drew
        rw [← hwM]
        clear hwM cel frz
        refine Mix.take [true, true, true, true, true, true, true, true, true, true, true, true, false, true, true, true, false, true] 4 (by kernel_rfl) (by kernel_rfl) (by decide) (by kernel_rfl) (fun K hK => ?_)
        simp only [Mix.pick]
        repeat (go_big_quiet_step (fail))
        refine wpQuiet_nil (hK _ ?_)
        clear hK K
        refine Mix.one [false, false, false, false, false, false, false, false, false, false, false, false, true] 3 12 _ rfl rfl (by kernel_rfl) (by kernel_rfl) (fun K hK => ?_)
        simp only [Mix.pick]
        go_wp2
        refine ⟨rfl, hK _ _ ?_⟩
        clear hK K
        refine Mix.take [false, false, false, false, false, false, false, false, false, false, false, false, false, false, false, false, true, false, true] 1 (by kernel_rfl) (by kernel_rfl) (by decide) (by kernel_rfl) (fun K hK => ?_)
        simp only [Mix.pick]
        repeat (go_big_quiet_step (fail))
        refine wpQuiet_nil (hK _ ?_)
        clear hK K
        refine Mix.one [false, false, false, false, false, false, false, false, false, false, false, false, false, false, false, false, false, false, false, true] 0 19 _ rfl rfl (by kernel_rfl) (by kernel_rfl) (fun K hK => ?_)
        simp only [Mix.pick]
        go_wp2
        refine ⟨rfl, hK _ _ ?_⟩
        clear hK K
        refine Mix.done (by kernel_rfl) ?_
        go_wp2
        go_meet
        have hn4 := HBO.out
        have hn5 := HA0.out
        have hn6 := HZ0.out
        have belM := bthen bel3 HBM.out
        have chM : Ch (fun q => q = Z0) wM (wM.setCell ⟨Z0, 1 + i, none⟩ (.int .u8 (y7 : Int))) := (Ch.refl (fun q => q = Z0) wM).set ⟨Z0, 1 + i, none⟩ _ rfl
        have e7 : (7 - 0 : Nat) = 7 := rfl
        refine ⟨x, upd y i y7, boxed_far ((ipRow_boxed HA3.out).old HBM.out) Z0 (1 + i) _ (by omega), ipRow_boxed (ipRow_set (IpRow.below HZ3.out HBM.out) i y7 HI16.out), .inr ⟨i, by have := HNB.out; have := HJI.out; omega, by have := HNB.out; omega, rfl, by rw [e7, HQ7.out, HZE.out]⟩, boxed_far (HX3.out.old HBM.out) Z0 (1 + i) _ (by omega), boxed_far (HY3.out.old HBM.out) Z0 (1 + i) _ (by omega), UAt.ch (UAt.below HRU3.out HBM.out) chM (by omega), TAt.ch (TAt.below HRT3.out HBM.out) chM (by omega), belM.trans (chM.below (fun q e => by have e' : q = Z0 := e; omega) belM.size)⟩
      · have qr : bit % 8 = 1 := by have := HJR.out; omega
        go_wp2
        refine Mix.start (by kernel_rfl) ?_
        obtain ⟨wM, hwM⟩ : ∃ wM, wM = w3.drew := ⟨_, rfl⟩
        have cel' : wM.cell? ⟨Z0, 1 + i, none⟩ = some (.int .u8 (z : Int)) := by rw [hwM]; exact cel
        have frz' : wM.frozen? ⟨Z0, 1 + i, none⟩ = false := by rw [hwM]; exact frz
        have HBM : Hid (Below w3.heap.size w3 wM) := by rw [hwM]; exact (Below.refl _ _).drew
        rw [← hwM]
        clear hwM cel frz
        refine Mix.take [true, true, true, true, true, true, true, true, true, true, true, true, false, true, true, true, false, true] 4 (by kernel_rfl) (by kernel_rfl) (by decide) (by kernel_rfl) (fun K hK => ?_)
        simp only [Mix.pick]
        repeat (go_big_quiet_step (fail))
        refine wpQuiet_nil (hK _ ?_)
        clear hK K
        refine Mix.one [false, false, false, false, false, false, false, false, false, false, false, false, true] 3 12 _ rfl rfl (by kernel_rfl) (by kernel_rfl) (fun K hK => ?_)
        simp only [Mix.pick]
        go_wp2
        refine ⟨rfl, hK _ _ ?_⟩
        clear hK K
        refine Mix.take [false, false, false, false, false, false, false, false, false, false, false, false, false, false, false, false, true, false, true] 1 (by kernel_rfl) (by kernel_rfl) (by decide) (by kernel_rfl) (fun K hK => ?_)
        simp only [Mix.pick]
        repeat (go_big_quiet_step (fail))
        refine wpQuiet_nil (hK _ ?_)
        clear hK K
        refine Mix.one [false, false, false, false, false, false, false, false, false, false, false, false, false, false, false, false, false, false, false, true] 0 19 _ rfl rfl (by kernel_rfl) (by kernel_rfl) (fun K hK => ?_)
        simp only [Mix.pick]
        go_wp2
        refine ⟨rfl, hK _ _ ?_⟩
        clear hK K
        refine Mix.done (by kernel_rfl) ?_
        go_wp2
        go_meet
        have hn4 := HBO.out
        have hn5 := HA0.out
        have hn6 := HZ0.out
        have belM := bthen bel3 HBM.out
        have chM : Ch (fun q => q = Z0) wM (wM.setCell ⟨Z0, 1 + i, none⟩ (.int .u8 (y6 : Int))) := (Ch.refl (fun q => q = Z0) wM).set ⟨Z0, 1 + i, none⟩ _ rfl
        have e7 : (7 - 1 : Nat) = 6 := rfl
        refine ⟨x, upd y i y6, boxed_far ((ipRow_boxed HA3.out).old HBM.out) Z0 (1 + i) _ (by omega), ipRow_boxed (ipRow_set (IpRow.below HZ3.out HBM.out) i y6 HI16.out), .inr ⟨i, by have := HNB.out; have := HJI.out; omega, by have := HNB.out; omega, rfl, by rw [e7, HQ6.out, HZE.out]⟩, boxed_far (HX3.out.old HBM.out) Z0 (1 + i) _ (by omega), boxed_far (HY3.out.old HBM.out) Z0 (1 + i) _ (by omega), UAt.ch (UAt.below HRU3.out HBM.out) chM (by omega), TAt.ch (TAt.below HRT3.out HBM.out) chM (by omega), belM.trans (chM.below (fun q e => by have e' : q = Z0 := e; omega) belM.size)⟩
      · have qr : bit % 8 = 2 := by have := HJR.out; omega
        go_wp2
        refine Mix.start (by kernel_rfl) ?_
        obtain ⟨wM, hwM⟩ : ∃ wM, wM = w3.drew := ⟨_, rfl⟩
        have cel' : wM.cell? ⟨Z0, 1 + i, none⟩ = some (.int .u8 (z : Int)) := by rw [hwM]; exact cel
        have frz' : wM.frozen? ⟨Z0, 1 + i, none⟩ = false := by rw [hwM]; exact frz
        have HBM : Hid (Below w3.heap.size w3 wM) := by rw [hwM]; exact (Below.refl _ _).drew
        rw [← hwM]
        clear hwM cel frz
        refine Mix.take [true, true, true, true, true, true, true, true, true, true, true, true, false, true, true, true, false, true] 4 (by kernel_rfl) (by kernel_rfl) (by decide) (by kernel_rfl) (fun K hK => ?_)
        simp only [Mix.pick]
        repeat (go_big_quiet_step (fail))
        refine wpQuiet_nil (hK _ ?_)
        clear hK K
        refine Mix.one [false, false, false, false, false, false, false, false, false, false, false, false, true] 3 12 _ rfl rfl (by kernel_rfl) (by kernel_rfl) (fun K hK => ?_)
        simp only [Mix.pick]
        go_wp2
        refine ⟨rfl, hK _ _ ?_⟩
        clear hK K
        refine Mix.take [false, false, false, false, false, false, false, false, false, false, false, false, false, false, false, false, true, false, true] 1 (by kernel_rfl) (by kernel_rfl) (by decide) (by kernel_rfl) (fun K hK => ?_)
        simp only [Mix.pick]
        repeat (go_big_quiet_step (fail))
        refine wpQuiet_nil (hK _ ?_)
        clear hK K
        refine Mix.one [false, false, false, false, false, false, false, false, false, false, false, false, false, false, false, false, false, false, false, true] 0 19 _ rfl rfl (by kernel_rfl) (by kernel_rfl) (fun K hK => ?_)
        simp only [Mix.pick]
        go_wp2
        refine ⟨rfl, hK _ _ ?_⟩
        clear hK K
        refine Mix.done (by kernel_rfl) ?_
        go_wp2
        go_meet
        have hn4 := HBO.out
        have hn5 := HA0.out
        have hn6 := HZ0.out
        have belM := bthen bel3 HBM.out
        have chM : Ch (fun q => q = Z0) wM (wM.setCell ⟨Z0, 1 + i, none⟩ (.int .u8 (y5 : Int))) := (Ch.refl (fun q => q = Z0) wM).set ⟨Z0, 1 + i, none⟩ _ rfl
        have e7 : (7 - 2 : Nat) = 5 := rfl
        refine ⟨x, upd y i y5, boxed_far ((ipRow_boxed HA3.out).old HBM.out) Z0 (1 + i) _ (by omega), ipRow_boxed (ipRow_set (IpRow.below HZ3.out HBM.out) i y5 HI16.out), .inr ⟨i, by have := HNB.out; have := HJI.out; omega, by have := HNB.out; omega, rfl, by rw [e7, HQ5.out, HZE.out]⟩, boxed_far (HX3.out.old HBM.out) Z0 (1 + i) _ (by omega), boxed_far (HY3.out.old HBM.out) Z0 (1 + i) _ (by omega), UAt.ch (UAt.below HRU3.out HBM.out) chM (by omega), TAt.ch (TAt.below HRT3.out HBM.out) chM (by omega), belM.trans (chM.below (fun q e => by have e' : q = Z0 := e; omega) belM.size)⟩
      · have qr : bit % 8 = 3 := by have := HJR.out; omega
        go_wp2
        refine Mix.start (by kernel_rfl) ?_
        obtain ⟨wM, hwM⟩ : ∃ wM, wM = w3.drew := ⟨_, rfl⟩
        have cel' : wM.cell? ⟨Z0, 1 + i, none⟩ = some (.int .u8 (z : Int)) := by rw [hwM]; exact cel
        have frz' : wM.frozen? ⟨Z0, 1 + i, none⟩ = false := by rw [hwM]; exact frz
        have HBM : Hid (Below w3.heap.size w3 wM) := by rw [hwM]; exact (Below.refl _ _).drew
        rw [← hwM]
        clear hwM cel frz
        refine Mix.take [true, true, true, true, true, true, true, true, true, true, true, true, false, true, true, true, false, true] 4 (by kernel_rfl) (by kernel_rfl) (by decide) (by kernel_rfl) (fun K hK => ?_)
        simp only [Mix.pick]
        repeat (go_big_quiet_step (fail))
        refine wpQuiet_nil (hK _ ?_)
        clear hK K
        refine Mix.one [false, false, false, false, false, false, false, false, false, false, false, false, true] 3 12 _ rfl rfl (by kernel_rfl) (by kernel_rfl) (fun K hK => ?_)
        simp only [Mix.pick]
        go_wp2
        refine ⟨rfl, hK _ _ ?_⟩
        clear hK K
        refine Mix.take [false, false, false, false, false, false, false, false, false, false, false, false, false, false, false, false, true, false, true] 1 (by kernel_rfl) (by kernel_rfl) (by decide) (by kernel_rfl) (fun K hK => ?_)
        simp only [Mix.pick]
        repeat (go_big_quiet_step (fail))
        refine wpQuiet_nil (hK _ ?_)
        clear hK K
        refine Mix.one [false, false, false, false, false, false, false, false, false, false, false, false, false, false, false, false, false, false, false, true] 0 19 _ rfl rfl (by kernel_rfl) (by kernel_rfl) (fun K hK => ?_)
        simp only [Mix.pick]
        go_wp2
        refine ⟨rfl, hK _ _ ?_⟩
        clear hK K
        refine Mix.done (by kernel_rfl) ?_
        go_wp2
        go_meet
        have hn4 := HBO.out
        have hn5 := HA0.out
        have hn6 := HZ0.out
        have belM := bthen bel3 HBM.out
        have chM : Ch (fun q => q = Z0) wM (wM.setCell ⟨Z0, 1 + i, none⟩ (.int .u8 (y4 : Int))) := (Ch.refl (fun q => q = Z0) wM).set ⟨Z0, 1 + i, none⟩ _ rfl
        have e7 : (7 - 3 : Nat) = 4 := rfl
        refine ⟨x, upd y i y4, boxed_far ((ipRow_boxed HA3.out).old HBM.out) Z0 (1 + i) _ (by omega), ipRow_boxed (ipRow_set (IpRow.below HZ3.out HBM.out) i y4 HI16.out), .inr ⟨i, by have := HNB.out; have := HJI.out; omega, by have := HNB.out; omega, rfl, by rw [e7, HQ4.out, HZE.out]⟩, boxed_far (HX3.out.old HBM.out) Z0 (1 + i) _ (by omega), boxed_far (HY3.out.old HBM.out) Z0 (1 + i) _ (by omega), UAt.ch (UAt.below HRU3.out HBM.out) chM (by omega), TAt.ch (TAt.below HRT3.out HBM.out) chM (by omega), belM.trans (chM.below (fun q e => by have e' : q = Z0 := e; omega) belM.size)⟩
      · have qr : bit % 8 = 4 := by have := HJR.out; omega
        go_wp2
        refine Mix.start (by kernel_rfl) ?_
        obtain ⟨wM, hwM⟩ : ∃ wM, wM = w3.drew := ⟨_, rfl⟩
        have cel' : wM.cell? ⟨Z0, 1 + i, none⟩ = some (.int .u8 (z : Int)) := by rw [hwM]; exact cel
        have frz' : wM.frozen? ⟨Z0, 1 + i, none⟩ = false := by rw [hwM]; exact frz
        have HBM : Hid (Below w3.heap.size w3 wM) := by rw [hwM]; exact (Below.refl _ _).drew
        rw [← hwM]
        clear hwM cel frz
        refine Mix.take [true, true, true, true, true, true, true, true, true, true, true, true, false, true, true, true, false, true] 4 (by kernel_rfl) (by kernel_rfl) (by decide) (by kernel_rfl) (fun K hK => ?_)
        simp only [Mix.pick]
        repeat (go_big_quiet_step (fail))
        refine wpQuiet_nil (hK _ ?_)
        clear hK K
        refine Mix.one [false, false, false, false, false, false, false, false, false, false, false, false, true] 3 12 _ rfl rfl (by kernel_rfl) (by kernel_rfl) (fun K hK => ?_)
        simp only [Mix.pick]
        go_wp2
        refine ⟨rfl, hK _ _ ?_⟩
        clear hK K
        refine Mix.take [false, false, false, false, false, false, false, false, false, false, false, false, false, false, false, false, true, false, true] 1 (by kernel_rfl) (by kernel_rfl) (by decide) (by kernel_rfl) (fun K hK => ?_)
        simp only [Mix.pick]
        repeat (go_big_quiet_step (fail))
        refine wpQuiet_nil (hK _ ?_)
        clear hK K
        refine Mix.one [false, false, false, false, false, false, false, false, false, false, false, false, false, false, false, false, false, false, false, true] 0 19 _ rfl rfl (by kernel_rfl) (by kernel_rfl) (fun K hK => ?_)
        simp only [Mix.pick]
        go_wp2
        refine ⟨rfl, hK _ _ ?_⟩
        clear hK K
        refine Mix.done (by kernel_rfl) ?_
        go_wp2
        go_meet
        have hn4 := HBO.out
        have hn5 := HA0.out
        have hn6 := HZ0.out
        have belM := bthen bel3 HBM.out
        have chM : Ch (fun q => q = Z0) wM (wM.setCell ⟨Z0, 1 + i, none⟩ (.int .u8 (y3 : Int))) := (Ch.refl (fun q => q = Z0) wM).set ⟨Z0, 1 + i, none⟩ _ rfl
        have e7 : (7 - 4 : Nat) = 3 := rfl
        refine ⟨x, upd y i y3, boxed_far ((ipRow_boxed HA3.out).old HBM.out) Z0 (1 + i) _ (by omega), ipRow_boxed (ipRow_set (IpRow.below HZ3.out HBM.out) i y3 HI16.out), .inr ⟨i, by have := HNB.out; have := HJI.out; omega, by have := HNB.out; omega, rfl, by rw [e7, HQ3.out, HZE.out]⟩, boxed_far (HX3.out.old HBM.out) Z0 (1 + i) _ (by omega), boxed_far (HY3.out.old HBM.out) Z0 (1 + i) _ (by omega), UAt.ch (UAt.below HRU3.out HBM.out) chM (by omega), TAt.ch (TAt.below HRT3.out HBM.out) chM (by omega), belM.trans (chM.below (fun q e => by have e' : q = Z0 := e; omega) belM.size)⟩
      · have qr : bit % 8 = 5 := by have := HJR.out; omega
        go_wp2
        refine Mix.start (by kernel_rfl) ?_
        obtain ⟨wM, hwM⟩ : ∃ wM, wM = w3.drew := ⟨_, rfl⟩
        have cel' : wM.cell? ⟨Z0, 1 + i, none⟩ = some (.int .u8 (z : Int)) := by rw [hwM]; exact cel
        have frz' : wM.frozen? ⟨Z0, 1 + i, none⟩ = false := by rw [hwM]; exact frz
        have HBM : Hid (Below w3.heap.size w3 wM) := by rw [hwM]; exact (Below.refl _ _).drew
        rw [← hwM]
        clear hwM cel frz
        refine Mix.take [true, true, true, true, true, true, true, true, true, true, true, true, false, true, true, true, false, true] 4 (by kernel_rfl) (by kernel_rfl) (by decide) (by kernel_rfl) (fun K hK => ?_)
        simp only [Mix.pick]
        repeat (go_big_quiet_step (fail))
        refine wpQuiet_nil (hK _ ?_)
        clear hK K
        refine Mix.one [false, false, false, false, false, false, false, false, false, false, false, false, true] 3 12 _ rfl rfl (by kernel_rfl) (by kernel_rfl) (fun K hK => ?_)
        simp only [Mix.pick]
        go_wp2
        refine ⟨rfl, hK _ _ ?_⟩
        clear hK K
        refine Mix.take [false, false, false, false, false, false, false, false, false, false, false, false, false, false, false, false, true, false, true] 1 (by kernel_rfl) (by kernel_rfl) (by decide) (by kernel_rfl) (fun K hK => ?_)
        simp only [Mix.pick]
        repeat (go_big_quiet_step (fail))
        refine wpQuiet_nil (hK _ ?_)
        clear hK K
        refine Mix.one [false, false, false, false, false, false, false, false, false, false, false, false, false, false, false, false, false, false, false, true] 0 19 _ rfl rfl (by kernel_rfl) (by kernel_rfl) (fun K hK => ?_)
        simp only [Mix.pick]
        go_wp2
        refine ⟨rfl, hK _ _ ?_⟩
        clear hK K
        refine Mix.done (by kernel_rfl) ?_
        go_wp2
        go_meet
        have hn4 := HBO.out
        have hn5 := HA0.out
        have hn6 := HZ0.out
        have belM := bthen bel3 HBM.out
        have chM : Ch (fun q => q = Z0) wM (wM.setCell ⟨Z0, 1 + i, none⟩ (.int .u8 (y2 : Int))) := (Ch.refl (fun q => q = Z0) wM).set ⟨Z0, 1 + i, none⟩ _ rfl
        have e7 : (7 - 5 : Nat) = 2 := rfl
        refine ⟨x, upd y i y2, boxed_far ((ipRow_boxed HA3.out).old HBM.out) Z0 (1 + i) _ (by omega), ipRow_boxed (ipRow_set (IpRow.below HZ3.out HBM.out) i y2 HI16.out), .inr ⟨i, by have := HNB.out; have := HJI.out; omega, by have := HNB.out; omega, rfl, by rw [e7, HQ2.out, HZE.out]⟩, boxed_far (HX3.out.old HBM.out) Z0 (1 + i) _ (by omega), boxed_far (HY3.out.old HBM.out) Z0 (1 + i) _ (by omega), UAt.ch (UAt.below HRU3.out HBM.out) chM (by omega), TAt.ch (TAt.below HRT3.out HBM.out) chM (by omega), belM.trans (chM.below (fun q e => by have e' : q = Z0 := e; omega) belM.size)⟩
      · have qr : bit % 8 = 6 := by have := HJR.out; omega
        go_wp2
        refine Mix.start (by kernel_rfl) ?_
        obtain ⟨wM, hwM⟩ : ∃ wM, wM = w3.drew := ⟨_, rfl⟩
        have cel' : wM.cell? ⟨Z0, 1 + i, none⟩ = some (.int .u8 (z : Int)) := by rw [hwM]; exact cel
        have frz' : wM.frozen? ⟨Z0, 1 + i, none⟩ = false := by rw [hwM]; exact frz
        have HBM : Hid (Below w3.heap.size w3 wM) := by rw [hwM]; exact (Below.refl _ _).drew
        rw [← hwM]
        clear hwM cel frz
        refine Mix.take [true, true, true, true, true, true, true, true, true, true, true, true, false, true, true, true, false, true] 4 (by kernel_rfl) (by kernel_rfl) (by decide) (by kernel_rfl) (fun K hK => ?_)
        simp only [Mix.pick]
        repeat (go_big_quiet_step (fail))
        refine wpQuiet_nil (hK _ ?_)
        clear hK K
        refine Mix.one [false, false, false, false, false, false, false, false, false, false, false, false, true] 3 12 _ rfl rfl (by kernel_rfl) (by kernel_rfl) (fun K hK => ?_)
        simp only [Mix.pick]
        go_wp2
        refine ⟨rfl, hK _ _ ?_⟩
        clear hK K
        refine Mix.take [false, false, false, false, false, false, false, false, false, false, false, false, false, false, false, false, true, false, true] 1 (by kernel_rfl) (by kernel_rfl) (by decide) (by kernel_rfl) (fun K hK => ?_)
        simp only [Mix.pick]
        repeat (go_big_quiet_step (fail))
        refine wpQuiet_nil (hK _ ?_)
        clear hK K
        refine Mix.one [false, false, false, false, false, false, false, false, false, false, false, false, false, false, false, false, false, false, false, true] 0 19 _ rfl rfl (by kernel_rfl) (by kernel_rfl) (fun K hK => ?_)
        simp only [Mix.pick]
        go_wp2
        refine ⟨rfl, hK _ _ ?_⟩
        clear hK K
        refine Mix.done (by kernel_rfl) ?_
        go_wp2
        go_meet
        have hn4 := HBO.out
        have hn5 := HA0.out
        have hn6 := HZ0.out
        have belM := bthen bel3 HBM.out
        have chM : Ch (fun q => q = Z0) wM (wM.setCell ⟨Z0, 1 + i, none⟩ (.int .u8 (y1 : Int))) := (Ch.refl (fun q => q = Z0) wM).set ⟨Z0, 1 + i, none⟩ _ rfl
        have e7 : (7 - 6 : Nat) = 1 := rfl
        refine ⟨x, upd y i y1, boxed_far ((ipRow_boxed HA3.out).old HBM.out) Z0 (1 + i) _ (by omega), ipRow_boxed (ipRow_set (IpRow.below HZ3.out HBM.out) i y1 HI16.out), .inr ⟨i, by have := HNB.out; have := HJI.out; omega, by have := HNB.out; omega, rfl, by rw [e7, HQ1.out, HZE.out]⟩, boxed_far (HX3.out.old HBM.out) Z0 (1 + i) _ (by omega), boxed_far (HY3.out.old HBM.out) Z0 (1 + i) _ (by omega), UAt.ch (UAt.below HRU3.out HBM.out) chM (by omega), TAt.ch (TAt.below HRT3.out HBM.out) chM (by omega), belM.trans (chM.below (fun q e => by have e' : q = Z0 := e; omega) belM.size)⟩
      · have qr : bit % 8 = 7 := by have := HJR.out; omega
        go_wp2
        refine Mix.start (by kernel_rfl) ?_
        obtain ⟨wM, hwM⟩ : ∃ wM, wM = w3.drew := ⟨_, rfl⟩
        have cel' : wM.cell? ⟨Z0, 1 + i, none⟩ = some (.int .u8 (z : Int)) := by rw [hwM]; exact cel
        have frz' : wM.frozen? ⟨Z0, 1 + i, none⟩ = false := by rw [hwM]; exact frz
        have HBM : Hid (Below w3.heap.size w3 wM) := by rw [hwM]; exact (Below.refl _ _).drew
        rw [← hwM]
        clear hwM cel frz
        refine Mix.take [true, true, true, true, true, true, true, true, true, true, true, true, false, true, true, true, false, true] 4 (by kernel_rfl) (by kernel_rfl) (by decide) (by kernel_rfl) (fun K hK => ?_)
        simp only [Mix.pick]
        repeat (go_big_quiet_step (fail))
        refine wpQuiet_nil (hK _ ?_)
        clear hK K
        refine Mix.one [false, false, false, false, false, false, false, false, false, false, false, false, true] 3 12 _ rfl rfl (by kernel_rfl) (by kernel_rfl) (fun K hK => ?_)
        simp only [Mix.pick]
        go_wp2
        refine ⟨rfl, hK _ _ ?_⟩
        clear hK K
        refine Mix.take [false, false, false, false, false, false, false, false, false, false, false, false, false, false, false, false, true, false, true] 1 (by kernel_rfl) (by kernel_rfl) (by decide) (by kernel_rfl) (fun K hK => ?_)
        simp only [Mix.pick]
        repeat (go_big_quiet_step (fail))
        refine wpQuiet_nil (hK _ ?_)
        clear hK K
        refine Mix.one [false, false, false, false, false, false, false, false, false, false, false, false, false, false, false, false, false, false, false, true] 0 19 _ rfl rfl (by kernel_rfl) (by kernel_rfl) (fun K hK => ?_)
        simp only [Mix.pick]
        go_wp2
        refine ⟨rfl, hK _ _ ?_⟩
        clear hK K
        refine Mix.done (by kernel_rfl) ?_
        go_wp2
        go_meet
        have hn4 := HBO.out
        have hn5 := HA0.out
        have hn6 := HZ0.out
        have belM := bthen bel3 HBM.out
        have chM : Ch (fun q => q = Z0) wM (wM.setCell ⟨Z0, 1 + i, none⟩ (.int .u8 (y0 : Int))) := (Ch.refl (fun q => q = Z0) wM).set ⟨Z0, 1 + i, none⟩ _ rfl
        have e7 : (7 - 7 : Nat) = 0 := rfl
        refine ⟨x, upd y i y0, boxed_far ((ipRow_boxed HA3.out).old HBM.out) Z0 (1 + i) _ (by omega), ipRow_boxed (ipRow_set (IpRow.below HZ3.out HBM.out) i y0 HI16.out), .inr ⟨i, by have := HNB.out; have := HJI.out; omega, by have := HNB.out; omega, rfl, by rw [e7, HQ0.out, HZE.out]⟩, boxed_far (HX3.out.old HBM.out) Z0 (1 + i) _ (by omega), boxed_far (HY3.out.old HBM.out) Z0 (1 + i) _ (by omega), UAt.ch (UAt.below HRU3.out HBM.out) chM (by omega), TAt.ch (TAt.below HRT3.out HBM.out) chM (by omega), belM.trans (chM.below (fun q e => by have e' : q = Z0 := e; omega) belM.size)⟩
  case rest =>
  obtain ⟨x', y', hA4, hZ4, htu, hX4, hY4, hU4, hT4, bel4⟩ := hcut
  have hx' := (htu.lt HX.out HY.out HR8.out).1
  have hy' := (htu.lt HX.out HY.out HR8.out).2
  have HTU : Hid (Tu V x y x' y' j r) := htu
  have HXX : Hid (∀ i, i < 16 → x' i < 256) := hx'
  have HYY : Hid (∀ i, i < 16 → y' i < 256) := hy'
  obtain ⟨w4, hw4⟩ : ∃ w4, w4 = wc := ⟨_, rfl⟩
  rw [← hw4] at hA4 hZ4 hX4 hY4 hU4 hT4 bel4 ⊢
  have HX4 : Hid (Boxed w4 B V x) := hX4
  have HY4 : Hid (Boxed w4 (B + 1) U y) := hY4
  have HRU4 : Hid (UAt w4 O u da n c) := hU4
  have HRT4 : Hid (TAt w4 O2 t la ln lc dt mt ct) := hT4
  have HAA4 : Hid (Boxed w4 A0 V x') := hA4
  have HZZ4 : Hid (Boxed w4 Z0 U y') := hZ4
  clear hx' hy' htu hw4 hA4 hZ4 hX4 hY4 hU4 hT4 HX3 HY3 HRU3 HRT3 HA3 HZ3 bel3 bel1 bel2 nlo nhi hneg hbig hbig2 hneg2
  have QP : Hid _ := putU_u V U x y u da n c w4 (HT.out w4 bel4).u (HK.out.old bel4) HX.out HY.out
  go_wp2_with (first | (refine wpList_load_ip (.tmp 5) rfl B V x rfl HX4.out rfl ?_) | (refine wpList_load_ip (.tmp 6) rfl (B + 1) U y rfl HY4.out rfl ?_) | (refine wpList_load_u9 (.tmp 7) rfl O u da n c rfl HRU4.out rfl ?_))
  refine Calls.mono QP.out ?_
  rintro e w5 ⟨er, ua, uL, ub, rfl, hb5, hd5, hu5⟩
  have HDU5 : Hid (DOk w5 ub ua uL uL) := hd5
  have HU5 : Hid (er = 0 → psOk V U x y = true ∧ L4.uChk V u = 0 ∧ uL = 8 + n ∧ ub = L4.uSer u (psL V U x y 17 ((8 + n : Nat) : Int))) := hu5
  clear QP hd5 hu5
  have bel5 := bthen bel4 hb5
  have HX5 : Hid (Boxed w5 B V x) := HX4.out.old hb5
  have HY5 : Hid (Boxed w5 (B + 1) U y) := HY4.out.old hb5
  have HRU5 : Hid (UAt w5 O u da n c) := UAt.below HRU4.out hb5
  have HRT5 : Hid (TAt w5 O2 t la ln lc dt mt ct) := TAt.below HRT4.out hb5
  have HAA5 : Hid (Boxed w5 A0 V x') := HAA4.out.old hb5
  have HZZ5 : Hid (Boxed w5 Z0 U y') := HZZ4.out.old hb5
  clear HX4 HY4 HRU4 HRT4 HAA4 HZZ4
  clear hb5
  have QP : Hid _ := putT_u V U x y t la ln lc os dt mt ct w5 (HT.out w5 bel5).t (HT.out w5 bel5).l (HKT.out.old bel5) HX.out HY.out
  go_wp2_with (first | (refine wpList_load_ip (.tmp 5) rfl B V x rfl HX5.out rfl ?_) | (refine wpList_load_ip (.tmp 6) rfl (B + 1) U y rfl HY5.out rfl ?_) | (refine wpList_load_t9 (.tmp 8) rfl O2 t la ln lc dt mt ct rfl HRT5.out rfl ?_))
  refine Calls.mono QP.out ?_
  rintro e w6 ⟨ef, ta, tL, tb, rfl, hb6, hd6, hu6⟩
  have HDT6 : Hid (DOk w6 tb ta tL tL) := hd6
  have HU6 : Hid (ef = 0 → psOk V U x y = true ∧ L4.tChk t = 0 ∧ tL ≤ 65535 ∧ tb = L4.tSer t (psL V U x y 6 ((tL : Nat) : Int))) := hu6
  clear QP hd6 hu6
  have bel6 := bthen bel5 hb6
  have HX6 : Hid (Boxed w6 B V x) := HX5.out.old hb6
  have HY6 : Hid (Boxed w6 (B + 1) U y) := HY5.out.old hb6
  have HRU6 : Hid (UAt w6 O u da n c) := UAt.below HRU5.out hb6
  have HRT6 : Hid (TAt w6 O2 t la ln lc dt mt ct) := TAt.below HRT5.out hb6
  have HAA6 : Hid (Boxed w6 A0 V x') := HAA5.out.old hb6
  have HZZ6 : Hid (Boxed w6 Z0 U y') := HZZ5.out.old hb6
  have HDU6 : Hid (DOk w6 ub ua uL uL) := HDU5.out.old hb6
  clear HX5 HY5 HRU5 HRT5 HAA5 HZZ5 HDU5
  clear hb6
  have QP : Hid _ := parseU_u V U x' y' ua uL uL ub w6 (HT.out w6 bel6).u HDU6.out HXX.out HYY.out
  go_wp2_with (first | (refine wpList_load_ip (.tmp 13) rfl A0 V x' rfl HAA6.out rfl ?_) | (refine wpList_load_ip (.tmp 14) rfl Z0 U y' rfl HZZ6.out rfl ?_))
  refine Calls.mono QP.out ?_
  rintro e w7 ⟨eg, u7, da7, m7, rfl, hb7, heg, h71, h72, h73⟩
  have HEG : Hid (er = 0 → u.ns = false → eg = 93) := by
    intro h0 hns
    obtain ⟨p1, p2, p3, p4⟩ := HU5.out h0
    have hn : u.d.length = n := HK.out.dl
    have hL := (L4.uChk_zero p2).2.2.2.2
    rw [heg, HTU.out.ok p1, p4, L4.uN_ser, hn]
    refine uEnd u _ _ p2 hns (HTU.out.bad HX.out HY.out HR8.out p1 (by simp [psIn]; omega) ?_)
    exact L4.uSer_good u _ (psL_even _ _ _ _ _ _) hns
  clear QP heg h71 h72 h73 HU5
  have bel7 := bthen bel6 hb7
  have HX7 : Hid (Boxed w7 B V x) := HX6.out.old hb7
  have HY7 : Hid (Boxed w7 (B + 1) U y) := HY6.out.old hb7
  have HRU7 : Hid (UAt w7 O u da n c) := UAt.below HRU6.out hb7
  have HRT7 : Hid (TAt w7 O2 t la ln lc dt mt ct) := TAt.below HRT6.out hb7
  have HAA7 : Hid (Boxed w7 A0 V x') := HAA6.out.old hb7
  have HZZ7 : Hid (Boxed w7 Z0 U y') := HZZ6.out.old hb7
  have HDU7 : Hid (DOk w7 ub ua uL uL) := HDU6.out.old hb7
  have HDT7 : Hid (DOk w7 tb ta tL tL) := HDT6.out.old hb7
  clear HX6 HY6 HRU6 HRT6 HAA6 HZZ6 HDU6 HDT6
  clear hb7
  have hl8 : Below w7.heap.size w7 (w7.alloc (.cells (uC u7 da7 m7 m7) 28)) := (Below.refl _ _).alloc (Nat.le_refl _) _
  have un8 := uAt_new w7 u7 da7 m7 m7
  obtain ⟨w8, hw8⟩ : ∃ w8, w8 = w7.alloc (.cells (uC u7 da7 m7 m7) 28) := ⟨_, rfl⟩
  rw [← hw8] at hl8 un8
  have HW8 : Hid (w7.alloc (.cells #[.int .i64 u7.sp, .int .i64 u7.dp, .bool u7.ns, .slice da7 m7 m7] 28) = w8) := hw8.symm
  obtain ⟨OG, hOG⟩ : ∃ OG, OG = w7.heap.size := ⟨_, rfl⟩
  rw [← hOG] at un8
  have HOG8 : Hid (UAt w8 OG u7 da7 m7 m7) := un8
  have HVs8 : Hid (w7.heap.size = OG) := hOG.symm
  have bel8 := bthen bel7 hl8
  have HX8 : Hid (Boxed w8 B V x) := HX7.out.old hl8
  have HY8 : Hid (Boxed w8 (B + 1) U y) := HY7.out.old hl8
  have HRU8 : Hid (UAt w8 O u da n c) := UAt.below HRU7.out hl8
  have HRT8 : Hid (TAt w8 O2 t la ln lc dt mt ct) := TAt.below HRT7.out hl8
  have HAA8 : Hid (Boxed w8 A0 V x') := HAA7.out.old hl8
  have HZZ8 : Hid (Boxed w8 Z0 U y') := HZZ7.out.old hl8
  have HDU8 : Hid (DOk w8 ub ua uL uL) := HDU7.out.old hl8
  have HDT8 : Hid (DOk w8 tb ta tL tL) := HDT7.out.old hl8
  clear HX7 HY7 HRU7 HRT7 HAA7 HZZ7 HDU7 HDT7
  clear hl8 un8 hw8 hOG
  rw [show uC u7 da7 m7 m7 = #[.int .i64 u7.sp, .int .i64 u7.dp, .bool u7.ns, .slice da7 m7 m7] from rfl]
  go_upto_region 15 with fail
  rw [HVs8.out, HW8.out]
  clear HVs8 HW8
  have QP : Hid _ := parseT_u V U x' y' ta tL tL tb w8 (HT.out w8 bel8).t (HT.out w8 bel8).l HDT8.out HXX.out HYY.out
  go_wp2_with (first | (refine wpList_load_ip (.tmp 13) rfl A0 V x' rfl HAA8.out rfl ?_) | (refine wpList_load_ip (.tmp 14) rfl Z0 U y' rfl HZZ8.out rfl ?_))
  refine Calls.mono QP.out ?_
  rintro e w9 ⟨eh, t9, la9, ln9, lc9, os9, da9, m9, rfl, hb9, heh, h91, h92, h93, h94⟩
  have HEH : Hid (ef = 0 → eh = 96) := by
    intro h0
    obtain ⟨p1, p2, p3, p4⟩ := HU6.out h0
    rw [heh, HTU.out.ok p1, p4]
    refine tEnd t _ _ p2 (HTU.out.bad HX.out HY.out HR8.out p1 (by simp [psIn]; omega) ?_)
    exact L4.tSer_good t _ (psL_even _ _ _ _ _ _)
  clear QP heh h91 h92 h93 h94 HU6
  have bel9 := bthen bel8 hb9
  have HX9 : Hid (Boxed w9 B V x) := HX8.out.old hb9
  have HY9 : Hid (Boxed w9 (B + 1) U y) := HY8.out.old hb9
  have HRU9 : Hid (UAt w9 O u da n c) := UAt.below HRU8.out hb9
  have HRT9 : Hid (TAt w9 O2 t la ln lc dt mt ct) := TAt.below HRT8.out hb9
  have HAA9 : Hid (Boxed w9 A0 V x') := HAA8.out.old hb9
  have HZZ9 : Hid (Boxed w9 Z0 U y') := HZZ8.out.old hb9
  have HDU9 : Hid (DOk w9 ub ua uL uL) := HDU8.out.old hb9
  have HDT9 : Hid (DOk w9 tb ta tL tL) := HDT8.out.old hb9
  have HOG9 : Hid (UAt w9 OG u7 da7 m7 m7) := UAt.below HOG8.out hb9
  clear HX8 HY8 HRU8 HRT8 HAA8 HZZ8 HDU8 HDT8 HOG8
  clear hb9
  have hl10 : Below w9.heap.size w9 (w9.alloc (.cells (tC t9 la9 ln9 lc9 da9 m9 m9) 39)) := (Below.refl _ _).alloc (Nat.le_refl _) _
  have un10 := tAt_new w9 t9 la9 ln9 lc9 da9 m9 m9
  obtain ⟨w10, hw10⟩ : ∃ w10, w10 = w9.alloc (.cells (tC t9 la9 ln9 lc9 da9 m9 m9) 39) := ⟨_, rfl⟩
  rw [← hw10] at hl10 un10
  have HW10 : Hid (w9.alloc (.cells #[.int .i64 t9.sp, .int .i64 t9.dp, .int .i64 t9.sq, .int .i64 t9.ak, .int .i64 t9.fl, .int .i64 t9.wi, .int .i64 t9.ur, .slice la9 ln9 lc9, .slice da9 m9 m9] 39) = w10) := hw10.symm
  obtain ⟨OH, hOH⟩ : ∃ OH, OH = w9.heap.size := ⟨_, rfl⟩
  rw [← hOH] at un10
  have HOH10 : Hid (TAt w10 OH t9 la9 ln9 lc9 da9 m9 m9) := un10
  have HVs10 : Hid (w9.heap.size = OH) := hOH.symm
  have bel10 := bthen bel9 hl10
  have HX10 : Hid (Boxed w10 B V x) := HX9.out.old hl10
  have HY10 : Hid (Boxed w10 (B + 1) U y) := HY9.out.old hl10
  have HRU10 : Hid (UAt w10 O u da n c) := UAt.below HRU9.out hl10
  have HRT10 : Hid (TAt w10 O2 t la ln lc dt mt ct) := TAt.below HRT9.out hl10
  have HAA10 : Hid (Boxed w10 A0 V x') := HAA9.out.old hl10
  have HZZ10 : Hid (Boxed w10 Z0 U y') := HZZ9.out.old hl10
  have HDU10 : Hid (DOk w10 ub ua uL uL) := HDU9.out.old hl10
  have HDT10 : Hid (DOk w10 tb ta tL tL) := HDT9.out.old hl10
  have HOG10 : Hid (UAt w10 OG u7 da7 m7 m7) := UAt.below HOG9.out hl10
  clear HX9 HY9 HRU9 HRT9 HAA9 HZZ9 HDU9 HDT9 HOG9
  clear hl10 un10 hw10 hOH
  rw [show tC t9 la9 ln9 lc9 da9 m9 m9 = #[.int .i64 t9.sp, .int .i64 t9.dp, .int .i64 t9.sq, .int .i64 t9.ak, .int .i64 t9.fl, .int .i64 t9.wi, .int .i64 t9.ur, .slice la9 ln9 lc9, .slice da9 m9 m9] from rfl]
  go_upto_region 16 with fail
  rw [HVs10.out, HW10.out]
  clear HVs10 HW10
  by_cases hz : er = 0
  case neg =>
    by_cases hf : ef = 0
    · have be : ((er : Int) != 0) = true := by rw [bne_iff_ne]; omega
      have h0 := HEH.out hf
      subst hf
      subst h0
      go_wp2_with fail
      refine Calls.mono (num9_any (er : Int) _) ?_
      rintro e wn ⟨rfl, rfl⟩
      go_wp2_with fail
      refine Calls.mono (num9_any 0 _) ?_
      rintro e wn ⟨rfl, rfl⟩
      go_wp2_with fail
      refine Calls.mono (num9_any 96 _) ?_
      rintro e wn ⟨rfl, rfl⟩
      go_wp2
      go_ret
      exact ⟨rfl, bel10⟩
    · have be : ((er : Int) != 0) = true := by rw [bne_iff_ne]; omega
      have bf : ((ef : Int) != 0) = true := by rw [bne_iff_ne]; omega
      go_wp2_with fail
      refine Calls.mono (num9_any (er : Int) _) ?_
      rintro e wn ⟨rfl, rfl⟩
      go_wp2_with fail
      refine Calls.mono (num9_any (ef : Int) _) ?_
      rintro e wn ⟨rfl, rfl⟩
      go_wp2
      go_ret
      exact ⟨rfl, bel10⟩
  by_cases hns : u.ns = true
  · by_cases hf : ef = 0
    · subst hz
      have c2 := HRU10.out.c2
      rw [hns] at c2
      have h0 := HEH.out hf
      subst hf
      subst h0
      go_wp2_with fail
      refine Calls.mono (num9_any 0 _) ?_
      rintro e wn ⟨rfl, rfl⟩
      go_wp2_with fail
      refine Calls.mono (num9_any 0 _) ?_
      rintro e wn ⟨rfl, rfl⟩
      go_wp2_with fail
      refine Calls.mono (num9_any 96 _) ?_
      rintro e wn ⟨rfl, rfl⟩
      go_wp2
      go_ret
      exact ⟨rfl, bel10⟩
    · subst hz
      have c2 := HRU10.out.c2
      rw [hns] at c2
      have bf : ((ef : Int) != 0) = true := by rw [bne_iff_ne]; omega
      go_wp2_with fail
      refine Calls.mono (num9_any 0 _) ?_
      rintro e wn ⟨rfl, rfl⟩
      go_wp2_with fail
      refine Calls.mono (num9_any (ef : Int) _) ?_
      rintro e wn ⟨rfl, rfl⟩
      go_wp2
      go_ret
      exact ⟨rfl, bel10⟩
  · have hns' : u.ns = false := by simpa using hns
    by_cases hf : ef = 0
    · have hg := HEG.out hz hns'
      subst hz
      subst hg
      have c2 := HRU10.out.c2
      rw [hns'] at c2
      have h0 := HEH.out hf
      subst hf
      subst h0
      go_wp2_with fail
      refine Calls.mono (num9_any 0 _) ?_
      rintro e wn ⟨rfl, rfl⟩
      go_wp2_with fail
      refine Calls.mono (num9_any 93 _) ?_
      rintro e wn ⟨rfl, rfl⟩
      go_wp2_with fail
      refine Calls.mono (num9_any 0 _) ?_
      rintro e wn ⟨rfl, rfl⟩
      go_wp2_with fail
      refine Calls.mono (num9_any 96 _) ?_
      rintro e wn ⟨rfl, rfl⟩
      go_wp2
      go_ret
      exact ⟨rfl, bel10⟩
    · have hg := HEG.out hz hns'
      subst hz
      subst hg
      have c2 := HRU10.out.c2
      rw [hns'] at c2
      have bf : ((ef : Int) != 0) = true := by rw [bne_iff_ne]; omega
      go_wp2_with fail
      refine Calls.mono (num9_any 0 _) ?_
      rintro e wn ⟨rfl, rfl⟩
      go_wp2_with fail
      refine Calls.mono (num9_any 93 _) ?_
      rintro e wn ⟨rfl, rfl⟩
      go_wp2_with fail
      refine Calls.mono (num9_any (ef : Int) _) ?_
      rintro e wn ⟨rfl, rfl⟩
      go_wp2
      go_ret
      exact ⟨rfl, bel10⟩
end Go.Proofs.YtmeieggnfmhnmaaDoor
