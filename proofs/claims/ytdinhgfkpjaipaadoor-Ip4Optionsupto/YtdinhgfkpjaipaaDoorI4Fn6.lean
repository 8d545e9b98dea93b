/-
  putTogether: the header without its options.
-/
import Derived.Test.YtdinhgfkpjaipaaDoorI4Fn5
import Derived.Test.YtdinhgfkpjaipaaDoorPack
namespace Go.Proofs.YtdinhgfkpjaipaaDoor
open Go.RowKit
open I4 (H4)

def bitN (b : Bool) : Nat := if b then 1 else 0
def hFields (h : H4) (hd tl : Nat) : List Nat := [4, hd / 4, h.tos.toNat, tl, h.id.toNat, 0, bitN h.df, bitN h.mf, h.off.toNat / 8, h.ttl.toNat, h.proto.toNat, 0, num4 h.sx, num4 h.dx]
/-- what is asked of a header's values -/
structure HdOk (h : H4) (hd tl : Nat) : Prop where
  hd0 : 20 ≤ hd
  hd1 : hd ≤ 60
  hd2 : hd % 4 = 0
  tl : tl ≤ 65535
  tos : 0 ≤ h.tos ∧ h.tos ≤ 255
  id : 0 ≤ h.id ∧ h.id ≤ 65535
  off : 0 ≤ h.off ∧ h.off ≤ 65528 ∧ h.off % 8 = 0
  ttl : 0 ≤ h.ttl ∧ h.ttl ≤ 255
  proto : 0 ≤ h.proto ∧ h.proto ≤ 255
  sx : ∀ i, i < 16 → h.sx i < 256
  dx : ∀ i, i < 16 → h.dx i < 256
set_option maxRecDepth 100000 in
theorem flds_h (h : H4) (hd tl : Nat) (k : HdOk h hd tl) : I4.flds (fun i => (I4.hlist h hd tl 0).getD i 0) = hFields h hd tl := by
  have h1 := k.tos
  have h2 := k.id
  have h3 := k.off
  have h4 := k.hd0
  have h5 := k.hd1
  have h6 := k.tl
  have w1 : I4.wordOf h < 32768 ∧ I4.wordOf h / 256 / 128 = 0 ∧ I4.wordOf h / 256 / 64 % 2 = bitN h.df ∧ I4.wordOf h / 256 / 32 % 2 = bitN h.mf ∧ I4.wordOf h / 256 % 32 * 256 + I4.wordOf h % 256 = h.off.toNat / 8 := by
    unfold I4.wordOf bitN
    cases h.df <;> cases h.mf <;> simp <;> omega
  obtain ⟨w1, w2, w3, w4, w5⟩ := w1
  have e0 : (64 + hd / 4) / 16 = 4 := by omega
  have e1 : (64 + hd / 4) % 16 = hd / 4 := by omega
  have e2 : tl / 256 * 256 + tl % 256 = tl := by omega
  have e3 : h.id.toNat / 256 * 256 + h.id.toNat % 256 = h.id.toNat := by omega
  show [(64 + hd / 4) / 16, (64 + hd / 4) % 16, h.tos.toNat, tl / 256 * 256 + tl % 256, h.id.toNat / 256 * 256 + h.id.toNat % 256, I4.wordOf h / 256 / 128, I4.wordOf h / 256 / 64 % 2, I4.wordOf h / 256 / 32 % 2, I4.wordOf h / 256 % 32 * 256 + I4.wordOf h % 256, h.ttl.toNat, h.proto.toNat, 0 / 256 * 256 + 0 % 256, ((h.sx 0 * 256 + h.sx 1) * 256 + h.sx 2) * 256 + h.sx 3, ((h.dx 0 * 256 + h.dx 1) * 256 + h.dx 2) * 256 + h.dx 3] = _
  rw [e0, e1, e2, e3, w2, w3, w4, w5]
  rfl
theorem hlist_lt (h : H4) (hd tl : Nat) (k : HdOk h hd tl) : ∀ i, i < 20 → (I4.hlist h hd tl 0).getD i 0 < 256 := by
  have h1 := k.tos
  have h2 := k.id
  have h3 := k.off
  have h4 := k.hd1
  have h5 := k.ttl
  have h6 := k.proto
  have h7 := k.tl
  have w1 : I4.wordOf h < 32768 := by
    unfold I4.wordOf
    split <;> split <;> omega
  intro i hi
  rcases I4.lt20 hi with rfl | rfl | rfl | rfl | rfl | rfl | rfl | rfl | rfl | rfl | rfl | rfl | rfl | rfl | rfl | rfl | rfl | rfl | rfl | rfl
  · show 64 + hd / 4 < 256; omega
  · show h.tos.toNat < 256; omega
  · show tl / 256 < 256; omega
  · show tl % 256 < 256; omega
  · show h.id.toNat / 256 < 256; omega
  · show h.id.toNat % 256 < 256; omega
  · show I4.wordOf h / 256 < 256; omega
  · show I4.wordOf h % 256 < 256; omega
  · show h.ttl.toNat < 256; omega
  · show h.proto.toNat < 256; omega
  · show 0 / 256 < 256; omega
  · show 0 % 256 < 256; omega
  · exact k.sx 0 (by omega)
  · exact k.sx 1 (by omega)
  · exact k.sx 2 (by omega)
  · exact k.sx 3 (by omega)
  · exact k.dx 0 (by omega)
  · exact k.dx 1 (by omega)
  · exact k.dx 2 (by omega)
  · exact k.dx 3 (by omega)
theorem fit_fitI (ws fs : List Nat) (h : M.Fit ws fs) : ∀ j, j < ws.length → 0 ≤ (toI fs).getD j 0 ∧ (toI fs).getD j 0 < 2 ^ (ws.getD j 0) := by
  induction ws generalizing fs with
  | nil => intro j hj; simp at hj
  | cons w ws ih =>
    cases fs with
    | nil => exact absurd h (by simp [M.Fit])
    | cons f fs =>
      obtain ⟨h1, h2⟩ := h
      intro j hj
      cases j with
      | zero => simp [toI]; exact_mod_cast h1
      | succ j =>
        have := ih fs h2 j (by simpa using hj)
        simpa [toI] using this
theorem vOf_all (ws fs : List Nat) (h : fs.length = ws.length) : vOf ws (toI fs) ws.length = M.packN 0 ws fs := by
  unfold vOf
  have e : (toI fs).map Int.toNat = fs := by
    simp only [toI, List.map_map]
    conv => rhs; rw [← List.map_id fs]
    apply List.map_congr_left
    intro x _
    simp
  rw [e, List.take_of_length_le (by omega), List.take_of_length_le (by omega)]
/-- Pack, of the header's fields -/
theorem pack_head (W : World) (a1 a2 : Option Addr) (c1 c2 : Nat) (h : H4) (hd tl : Nat) (k : HdOk h hd tl) (h1 : Seg .i64 W a1 (toI I4.ws4)) (h2 : Seg .i64 W a2 (toI (hFields h hd tl))) :
    Calls Tryd.prog 77 #[.slice a1 14 c1, .slice a2 14 c2] W fun e w' => ∃ v, e = .returned (.tuple #[v, .int .i64 0]) ∧ Below W.heap.size W w' ∧ w'.ownsRow W.heap.size 5 1 v 20 ((toI (I4.hlist h hd tl 0)).map (Value.int .u8)) := by
  have hfit : M.Fit I4.ws4 (hFields h hd tl) := by rw [← flds_h h hd tl k]; exact I4.fit_flds _ (hlist_lt h hd tl k)
  refine (pack_any a1 a2 c1 c2 20 I4.ws4 (toI (hFields h hd tl)) W h1 h2 rfl (by decide) ws4_ok (by rw [I4.tot4])).mono ?_
  rintro e w' ⟨v, er, rfl, hb, hh⟩
  rcases hh with ⟨_, rfl, ho⟩ | ⟨hno, _⟩
  · refine ⟨v, rfl, hb, ?_⟩
    rw [vOf_all I4.ws4 (hFields h hd tl) rfl, bytesV, ← flds_h h hd tl k, I4.bytes_bl _ (hlist_lt h hd tl k), toI_map] at ho
    exact ho
  · exact absurd (fit_fitI _ _ hfit) hno
theorem yields_bool {ops : Array Oper} {o : Oper} {a : Act} {S : World → Prop} (x : Operand) (ho : o.op = .load 4 x) (p : Addr) (u : Value) (hx : a.eval x = .pointer (some p)) (hw : Region.wanted o (yielded ops a.tmps) = true) (hS : ∀ w, S w → w.cell? p = some u) : YieldsIf Tryd.prog ops S o u a := by
  refine .inl ⟨hw, fun w hb => ?_⟩
  have hc := hS w hb
  have hu := Tryd.underlying4
  obtain ⟨dst, op, type, pos, after, guard⟩ := o
  simp only at ho
  subst ho
  simp only [execOp, Sem.run_bind, Sem.run_pure]
  rw [hx]
  simp [Instr.loadAt, go_sem, hc]
theorem cells14 (W : World) (l : List Int) (t : TypeId) : Seg .i64 (W.alloc (.cells (l.map (Value.int .i64)).toArray t)) (some ⟨W.heap.size, 0, none⟩) l := by
  refine .inr ⟨_, _, rfl, ?_⟩
  intro i hi
  rw [Nat.zero_add, World.cell?_alloc_at _ _ _ _ rfl]
  simp [List.getD, hi]
set_option maxHeartbeats 3200000 in
set_option maxRecDepth 100000 in
theorem putTogether_any (h : H4) (ol dl : Value) (hd tl : Nat) (w : World) (hw : Wid w) (k : HdOk h hd tl) :
    Calls Tryd.prog 49 #[.agg (h4C h ol dl), .int .i64 hd, .int .i64 tl] w fun e w' => ∃ v, e = .returned v ∧ w'.ownsRow w.heap.size 5 1 v 20 ((toI (I4.hlist h hd tl 0)).map (Value.int .u8)) ∧ Below w.heap.size w w' := by
  obtain ⟨W1, hW1⟩ : ∃ W1, W1 = w.alloc (.cells (h4C h ol dl) 28) := ⟨_, rfl⟩
  obtain ⟨W, hW⟩ : ∃ W, W = W1.alloc (.cells widC.toArray 117) := ⟨_, rfl⟩
  obtain ⟨O, hO⟩ : ∃ O, O = w.heap.size := ⟨_, rfl⟩
  have hs1 : W1.heap.size = O + 1 := by rw [hW1, hO]; simp
  have bel1 : Below w.heap.size w W1 := by rw [hW1]; exact (Below.refl _ _).alloc (Nat.le_refl _) _
  have belW : Below W1.heap.size W1 W := by rw [hW]; exact (Below.refl _ _).alloc (Nat.le_refl _) _
  have bel := bthen bel1 belW
  have box1 : H4At W1 O h ol dl := by rw [hW1, hO]; exact h4At_new _ _ _ _
  have box : H4At W O h ol dl := box1.below belW
  have hw1 := hw.old bel1
  have seg : Seg .i64 W (some ⟨O + 1, 0, none⟩) (toI I4.ws4) := by rw [hW, ← hs1]; exact wid_seg W1
  have g0 : W1.cell? ⟨0, 0, none⟩ = some (.int .i64 4) := hw1 0 _ rfl
  have g1 : W1.cell? ⟨0, 1, none⟩ = some (.int .i64 4) := hw1 1 _ rfl
  have g2 : W1.cell? ⟨0, 2, none⟩ = some (.int .i64 8) := hw1 2 _ rfl
  have g3 : W1.cell? ⟨0, 3, none⟩ = some (.int .i64 16) := hw1 3 _ rfl
  have g4 : W1.cell? ⟨0, 4, none⟩ = some (.int .i64 16) := hw1 4 _ rfl
  have g5 : W1.cell? ⟨0, 5, none⟩ = some (.int .i64 1) := hw1 5 _ rfl
  have g6 : W1.cell? ⟨0, 6, none⟩ = some (.int .i64 1) := hw1 6 _ rfl
  have g7 : W1.cell? ⟨0, 7, none⟩ = some (.int .i64 1) := hw1 7 _ rfl
  have g8 : W1.cell? ⟨0, 8, none⟩ = some (.int .i64 13) := hw1 8 _ rfl
  have g9 : W1.cell? ⟨0, 9, none⟩ = some (.int .i64 8) := hw1 9 _ rfl
  have g10 : W1.cell? ⟨0, 10, none⟩ = some (.int .i64 8) := hw1 10 _ rfl
  have g11 : W1.cell? ⟨0, 11, none⟩ = some (.int .i64 16) := hw1 11 _ rfl
  have g12 : W1.cell? ⟨0, 12, none⟩ = some (.int .i64 32) := hw1 12 _ rfl
  have g13 : W1.cell? ⟨0, 13, none⟩ = some (.int .i64 32) := hw1 13 _ rfl
  obtain ⟨C, hC⟩ : ∃ C, C = h4C h ol dl := ⟨_, rfl⟩
  have HW1 : Hid (w.alloc (.cells C 28) = W1) := by rw [hC]; exact hW1.symm
  have hW' := hW.symm
  simp only [widC] at hW'
  have HW : Hid _ := hW'
  have HO : Hid (w.heap.size = O) := hO.symm
  have HS1 : Hid (W1.heap.size = O + 1) := hs1
  have HK : Hid (HdOk h hd tl) := k
  have HBEL : Hid (Below w.heap.size w W) := bel
  have HSEG : Hid (∀ A, Below W.heap.size W A → Seg .i64 A (some ⟨O + 1, 0, none⟩) (toI I4.ws4)) := fun A hA => seg.old hA
  have HBOX : Hid (∀ A, Below W.heap.size W A → H4At A O h ol dl) := fun A hA => box.below hA
  obtain ⟨t, ht⟩ : ∃ t : Nat, h.tos = (t : Int) := ⟨h.tos.toNat, by have := k.tos; omega⟩
  obtain ⟨i, hi⟩ : ∃ i : Nat, h.id = (i : Int) := ⟨h.id.toNat, by have := k.id; omega⟩
  obtain ⟨f, hf⟩ : ∃ f : Nat, h.off = (f : Int) := ⟨h.off.toNat, by have := k.off; omega⟩
  obtain ⟨l, hl⟩ : ∃ l : Nat, h.ttl = (l : Int) := ⟨h.ttl.toNat, by have := k.ttl; omega⟩
  obtain ⟨p, hp⟩ : ∃ p : Nat, h.proto = (p : Int) := ⟨h.proto.toNat, by have := k.proto; omega⟩
  have K0 : Hid (∀ A, Below W.heap.size W A → A.cell? ⟨O, 0, none⟩ = some (.int .i64 t)) := fun A hA => by rw [← ht]; exact (box.below hA).c0
  have K1 : Hid (∀ A, Below W.heap.size W A → A.cell? ⟨O, 1, none⟩ = some (.int .i64 i)) := fun A hA => by rw [← hi]; exact (box.below hA).c1
  have K2 : Hid (∀ A, Below W.heap.size W A → A.cell? ⟨O, 2, none⟩ = some (.bool h.df)) := fun A hA => (box.below hA).c2
  have K3 : Hid (∀ A, Below W.heap.size W A → A.cell? ⟨O, 3, none⟩ = some (.bool h.mf)) := fun A hA => (box.below hA).c3
  have K4 : Hid (∀ A, Below W.heap.size W A → A.cell? ⟨O, 4, none⟩ = some (.int .i64 f)) := fun A hA => by rw [← hf]; exact (box.below hA).c4
  have K5 : Hid (∀ A, Below W.heap.size W A → A.cell? ⟨O, 5, none⟩ = some (.int .i64 l)) := fun A hA => by rw [← hl]; exact (box.below hA).c5
  have K6 : Hid (∀ A, Below W.heap.size W A → A.cell? ⟨O, 6, none⟩ = some (.int .i64 p)) := fun A hA => by rw [← hp]; exact (box.below hA).c6
  have HV : Hid (toI (hFields h hd tl) = [4, (hd : Int) / 4, (t : Int), (tl : Int), (i : Int), 0, bitI h.df, bitI h.mf, (f : Int) / 8, (l : Int), (p : Int), 0, ((num4 h.sx : Nat) : Int), ((num4 h.dx : Nat) : Int)]) := by
    show _ = _
    simp only [hFields, ht, hi, hf, hl, hp, toI, List.map_cons, List.map_nil, Int.toNat_natCast]
    have e1 : ∀ b, ((bitN b : Nat) : Int) = bitI b := by intro b; cases b <;> rfl
    rw [e1, e1]
    rfl
  have q1 : wrap64 ((hd : Int) / 4) = (hd : Int) / 4 := by have := k.hd1; unfold wrap64; omega
  have q2 : wrap64 ((f : Int) / 8) = (f : Int) / 8 := by have := k.off; unfold wrap64; omega
  rw [← hC]
  clear hW1 hW hW' hC hO hs1 bel1 belW bel box1 box hw hw1 seg k ht hi hf hl hp
  go_enter Tryd.func49, Tryd.ntmps49
  go_upto_region 1 with fail
  rw [HW1.out, HO.out]
  go_upto_region 2 with fail
  rw [HW.out, HS1.out]
  refine MixH.start (fun A => Below W.heap.size W A) (by kernel_rfl) ?_
  obtain ⟨wA, hwA⟩ : ∃ wA, wA = W.drew := ⟨_, rfl⟩
  have hS : Below W.heap.size W wA := by rw [hwA]; exact (Below.refl _ _).drew
  rw [← hwA]
  clear hwA HW HW1 HS1 g0 g1 g2 g3 g4 g5 g6 g7 g8 g9 g10 g11 g12 g13
  refine MixH.takes [true, true, true, true, false, true, true, false, true, false, false, true, false, false, true, false, false, true, false, true, false, true, false, false, true] 21 (by kernel_rfl) (by kernel_rfl) (by decide) (by kernel_rfl) hS (fun K hK => ?_)
  simp only [Mix.pick]
  repeat (go_big_quiet_step (fail))
  refine wpQuiet_nil (hK _ ?_)
  clear hK K
  refine MixH.take 20 4 _ (.int .i64 (t : Nat)) rfl (by kernel_rfl) (by kernel_rfl) (by kernel_rfl) (by kernel_rfl) (yields_int (.tmp 15) rfl ⟨O, 0, none⟩ _ rfl rfl K0.out) hS (fun a' ha => ?_)
  simp only [Act.put, List.setIfInBounds_toArray, List.set_cons_succ, List.set_cons_zero] at ha
  subst ha
  refine MixH.take 19 7 _ (.int .i64 (i : Nat)) rfl (by kernel_rfl) (by kernel_rfl) (by kernel_rfl) (by kernel_rfl) (yields_int (.tmp 18) rfl ⟨O, 1, none⟩ _ rfl rfl K1.out) hS (fun a' ha => ?_)
  simp only [Act.put, List.setIfInBounds_toArray, List.set_cons_succ, List.set_cons_zero] at ha
  subst ha
  refine MixH.take 18 15 _ (.int .i64 (f : Nat)) rfl (by kernel_rfl) (by kernel_rfl) (by kernel_rfl) (by kernel_rfl) (yields_int (.tmp 26) rfl ⟨O, 4, none⟩ _ rfl rfl K4.out) hS (fun a' ha => ?_)
  simp only [Act.put, List.setIfInBounds_toArray, List.set_cons_succ, List.set_cons_zero] at ha
  subst ha
  refine MixH.take 17 18 _ (.int .i64 (l : Nat)) rfl (by kernel_rfl) (by kernel_rfl) (by kernel_rfl) (by kernel_rfl) (yields_int (.tmp 29) rfl ⟨O, 5, none⟩ _ rfl rfl K5.out) hS (fun a' ha => ?_)
  simp only [Act.put, List.setIfInBounds_toArray, List.set_cons_succ, List.set_cons_zero] at ha
  subst ha
  refine MixH.take 16 20 _ (.int .i64 (p : Nat)) rfl (by kernel_rfl) (by kernel_rfl) (by kernel_rfl) (by kernel_rfl) (yields_int (.tmp 31) rfl ⟨O, 6, none⟩ _ rfl rfl K6.out) hS (fun a' ha => ?_)
  simp only [Act.put, List.setIfInBounds_toArray, List.set_cons_succ, List.set_cons_zero] at ha
  subst ha
  refine MixH.take 15 9 _ (.bool h.df) rfl (by kernel_rfl) (by kernel_rfl) (by kernel_rfl) (by kernel_rfl) (yields_bool (.tmp 20) rfl ⟨O, 2, none⟩ _ rfl rfl K2.out) hS (fun a' ha => ?_)
  simp only [Act.put, List.setIfInBounds_toArray, List.set_cons_succ, List.set_cons_zero] at ha
  subst ha
  refine MixH.take 14 12 _ (.bool h.mf) rfl (by kernel_rfl) (by kernel_rfl) (by kernel_rfl) (by kernel_rfl) (yields_bool (.tmp 23) rfl ⟨O, 3, none⟩ _ rfl rfl K3.out) hS (fun a' ha => ?_)
  simp only [Act.put, List.setIfInBounds_toArray, List.set_cons_succ, List.set_cons_zero] at ha
  subst ha
  refine MixH.take 13 22 _ (.agg (ipCells h.sv h.sx)) rfl (by kernel_rfl) (by kernel_rfl) (by kernel_rfl) (by kernel_rfl) (yieldsIf_load_mid rfl 24 (.tmp 33) rfl O 7 rfl (ipCells h.sv h.sx).toList _ (fun A hA => H4At.src (HBOX.out A hA)) Tryd.underlying24 rfl Tryd.sizeIP') hS (fun a' ha => ?_)
  simp only [Act.put, List.setIfInBounds_toArray, List.set_cons_succ, List.set_cons_zero] at ha
  subst ha
  refine MixH.take 12 25 _ (.agg (ipCells h.dv h.dx)) rfl (by kernel_rfl) (by kernel_rfl) (by kernel_rfl) (by kernel_rfl) (yieldsIf_load_mid rfl 24 (.tmp 36) rfl O 24 rfl (ipCells h.dv h.dx).toList _ (fun A hA => H4At.dst (HBOX.out A hA)) Tryd.underlying24 rfl Tryd.sizeIP') hS (fun a' ha => ?_)
  simp only [Act.put, List.setIfInBounds_toArray, List.set_cons_succ, List.set_cons_zero] at ha
  subst ha
  refine MixH.takes [false, false, false, false, false, false, false, false, false, false, false, false, false, false, false, false, true] 11 (by kernel_rfl) (by kernel_rfl) (by decide) (by kernel_rfl) hS (fun K hK => ?_)
  simp only [Mix.pick]
  repeat (go_big_quiet_step (fail))
  refine wpQuiet_nil (hK _ ?_)
  clear hK K
  refine MixH.one [false, false, false, false, false, false, false, false, false, false, true] 10 10 _ rfl rfl (by kernel_rfl) (by kernel_rfl) (fun K hK => ?_)
  simp only [Mix.pick]
  go_wp2_with fail
  refine Calls.mono (bit_any h.df wA) ?_
  rintro e w1 ⟨rfl, rfl⟩
  go_wp2
  refine ⟨rfl, hK _ _ hS ?_⟩
  clear hK K
  refine MixH.one [false, false, false, false, false, false, false, false, false, false, false, false, false, true] 9 13 _ rfl rfl (by kernel_rfl) (by kernel_rfl) (fun K hK => ?_)
  simp only [Mix.pick]
  go_wp2_with fail
  refine Calls.mono (bit_any h.mf wA) ?_
  rintro e w1 ⟨rfl, rfl⟩
  go_wp2
  refine ⟨rfl, hK _ _ hS ?_⟩
  clear hK K
  refine MixH.one [false, false, false, false, false, false, false, false, false, false, false, false, false, false, false, false, false, false, false, false, false, false, false, true] 8 23 _ rfl rfl (by kernel_rfl) (by kernel_rfl) (fun K hK => ?_)
  simp only [Mix.pick]
  have Q1 : Hid _ := number_any h.sv h.sx wA HK.out.sx
  go_wp2_with fail
  refine Calls.mono Q1.out ?_
  rintro e w1 ⟨rfl, hb1⟩
  replace hS := bthen hS hb1
  clear Q1 hb1
  go_wp2
  refine ⟨rfl, hK _ _ hS ?_⟩
  clear hK K
  refine MixH.one [false, false, false, false, false, false, false, false, false, false, false, false, false, false, false, false, false, false, false, false, false, false, false, false, false, false, true] 7 26 _ rfl rfl (by kernel_rfl) (by kernel_rfl) (fun K hK => ?_)
  simp only [Mix.pick]
  have Q1 : Hid _ := number_any h.dv h.dx w1 HK.out.dx
  go_wp2_with fail
  refine Calls.mono Q1.out ?_
  rintro e w2 ⟨rfl, hb1⟩
  replace hS := bthen hS hb1
  clear Q1 hb1
  go_wp2
  refine ⟨rfl, hK _ _ hS ?_⟩
  clear hK K
  refine MixH.one [false, false, false, false, false, false, false, false, false, false, false, false, false, false, false, false, false, false, false, false, false, false, false, false, false, false, false, true] 6 27 _ rfl rfl (by kernel_rfl) (by kernel_rfl) (fun K hK => ?_)
  simp only [Mix.pick]
  have hSn := hS.alloc hS.size (.cells #[.int .i64 4, .int .i64 ((hd : Int) / 4), .int .i64 (t : Int), .int .i64 (tl : Int), .int .i64 (i : Int), .int .i64 0, .int .i64 (bitI h.df), .int .i64 (bitI h.mf), .int .i64 ((f : Int) / 8), .int .i64 (l : Int), .int .i64 (p : Int), .int .i64 0, .int .i64 ((num4 h.sx : Nat) : Int), .int .i64 ((num4 h.dx : Nat) : Int)] 3)
  have hseg2 := cells14 w2 [4, (hd : Int) / 4, (t : Int), (tl : Int), (i : Int), 0, bitI h.df, bitI h.mf, (f : Int) / 8, (l : Int), (p : Int), 0, ((num4 h.sx : Nat) : Int), ((num4 h.dx : Nat) : Int)] 3
  simp only [List.map_cons, List.map_nil] at hseg2
  go_wp2
  clear hS
  have hS := hSn
  refine ⟨rfl, hK _ _ hS ?_⟩
  clear hK K
  obtain ⟨w3, hw3⟩ : ∃ w3, w3 = w2.alloc (.cells #[.int .i64 4, .int .i64 ((hd : Int) / 4), .int .i64 (t : Int), .int .i64 (tl : Int), .int .i64 (i : Int), .int .i64 0, .int .i64 (bitI h.df), .int .i64 (bitI h.mf), .int .i64 ((f : Int) / 8), .int .i64 (l : Int), .int .i64 (p : Int), .int .i64 0, .int .i64 ((num4 h.sx : Nat) : Int), .int .i64 ((num4 h.dx : Nat) : Int)] 3) := ⟨_, rfl⟩
  rw [← hw3] at hSn hseg2 hS ⊢
  clear hw3 hSn
  refine MixH.one [false, false, false, false, false, false, false, false, false, false, false, false, false, false, false, false, false, false, false, false, false, false, false, false, false, false, false, false, true] 5 28 _ rfl rfl (by kernel_rfl) (by kernel_rfl) (fun K hK => ?_)
  simp only [Mix.pick]
  rw [← HV.out] at hseg2
  have Q1 : Hid _ := pack_head w3 _ _ 14 14 h hd tl HK.out (HSEG.out w3 hS) hseg2
  go_wp2_with fail
  refine Calls.mono Q1.out ?_
  rintro e w4 ⟨v, rfl, hb1, ho1⟩
  have HOW : Hid _ := owns_le ho1 (Nat.le_trans HBEL.out.size hS.size)
  replace hS := bthen hS hb1
  clear Q1 hb1 ho1 hseg2
  go_wp2
  refine ⟨rfl, hK _ _ hS ?_⟩
  clear hK K
  refine MixH.takes [false, false, false, false, false, false, false, false, false, false, false, false, false, false, false, false, false, false, false, false, false, false, false, false, false, false, false, false, false, true, true, true] 2 (by kernel_rfl) (by kernel_rfl) (by decide) (by kernel_rfl) hS (fun K hK => ?_)
  simp only [Mix.pick]
  repeat (go_big_quiet_step (fail))
  refine wpQuiet_nil (hK _ ?_)
  clear hK K
  refine MixH.takes [false, false, false, false, false, false, false, false, false, false, false, false, false, false, false, false, false, false, false, false, false, false, false, false, false, false, false, false, false, false, false, false, true] 1 (by kernel_rfl) (by kernel_rfl) (by decide) (by kernel_rfl) hS (fun K hK => ?_)
  simp only [Mix.pick]
  repeat (go_big_quiet_step (fail))
  refine wpQuiet_nil (hK _ ?_)
  clear hK K
  refine MixH.takes [false, false, false, false, false, false, false, false, false, false, false, false, false, false, false, false, false, false, false, false, false, false, false, false, false, false, false, false, false, false, false, false, false, true] 0 (by kernel_rfl) (by kernel_rfl) (by decide) (by kernel_rfl) hS (fun K hK => ?_)
  simp only [Mix.pick]
  repeat (go_big_quiet_step (fail))
  refine wpQuiet_nil (hK _ ?_)
  clear hK K
  refine MixH.done (by kernel_rfl) ?_
  have HFIN : Hid (Below w.heap.size w w4) := HBEL.out.trans (hS.mono HBEL.out.size)
  clear hS
  go_wp2
  go_ret
  exact ⟨v, rfl, HOW.out, HFIN.out⟩
end Go.Proofs.YtdinhgfkpjaipaaDoor
