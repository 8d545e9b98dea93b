/-
  Layer 15: cmp.Compare, bytes.Compare, cmp.Or, order: and what they leave behind: new blocks and draws alone.
-/
import Derived.Test.YtnpipngiehohgaaNgFn3
import Derived.Lib.BytesEntry
import Derived.Deep.RegionWith
import Derived.Deep.Draws
import Derived.Sort.Grow
namespace Go.Proofs.Ytnpipngiehohgaa
open Go.RowKit Go.Maps

def Gr (w w' : World) : Prop := Below w.heap.size w w' ∧ w.drawn ≤ w'.drawn
theorem Gr.trans {a b c : World} (h : Gr a b) (k : Gr b c) : Gr a c := ⟨bthen h.1 k.1, Nat.le_trans h.2 k.2⟩
theorem Gr.grow {w w' : World} (h : Gr w w') : ∃ q os', w' = Go.Sort.grow (w.drewN q) os' := by
  obtain ⟨hb, hd⟩ := h
  refine ⟨w'.drawn - w.drawn, w'.heap.extract w.heap.size w'.heap.size, ?_⟩
  have hh : w'.heap = w.heap ++ w'.heap.extract w.heap.size w'.heap.size := by
    apply Array.ext_getElem?
    intro i
    by_cases hi : i < w.heap.size
    · rw [Array.getElem?_append_left hi, hb.block i hi]
    · rw [Array.getElem?_append_right (by omega), Array.getElem?_extract]
      by_cases h2 : i < w'.heap.size
      · rw [if_pos (by omega), show w.heap.size + (i - w.heap.size) = i by omega]
      · rw [if_neg (by omega), Array.getElem?_eq_none (by omega)]
  obtain ⟨heap, tape, drawn, os, output⟩ := w'
  have h1 := hb.os
  have h2 := hb.tape
  have h3 := hb.output
  simp only at h1 h2 h3 hh hd
  subst h1 h2 h3
  simp only [Go.Sort.grow, World.drewN, World.mk.injEq, true_and, and_true]
  exact ⟨hh, by omega⟩
theorem toI_lenX (l : List Nat) : (toI l).length = l.length := by simp [toI]
/-- the sixteen bytes -/
def by16 (x : Nat → Nat) : List UInt8 := Lib.bytesOf (toI (ipL x 16))
theorem by16_len (x : Nat → Nat) : (by16 x).length = 16 := by simp [by16, Lib.bytesOf, toI, ipL]
theorem by16_same (x y : Nat → Nat) (hx : ∀ i, x i < 256) (hy : ∀ i, y i < 256) (h : by16 x = by16 y) : same16 x y = true := by
  rw [same16_iff]
  intro i hi
  have h1 : (by16 x)[i]? = (by16 y)[i]? := by rw [h]
  simp [by16, Lib.bytesOf, toI, ipL, hi] at h1
  have h2 := congrArg UInt8.toNat h1
  have h3 := hx i
  have h4 := hy i
  simp at h2
  omega
theorem same_by16 (x y : Nat → Nat) (h : same16 x y = true) : by16 x = by16 y := by
  rw [same16_iff] at h
  unfold by16
  congr 2
  unfold ipL
  apply List.map_congr_left
  intro i hi
  exact h i (by simpa using hi)
theorem cmp_self : ∀ l : List UInt8, Lib.compareBytes l l = 0
  | [] => rfl
  | a :: l => by simp [Lib.compareBytes, cmp_self l]
theorem cmp_eq0 : ∀ a b : List UInt8, a.length = b.length → (¬ Lib.compareBytes a b < 0) → (¬ Lib.compareBytes b a < 0) → a = b
  | [], [], _, _, _ => rfl
  | [], _ :: _, h, _, _ => by simp at h
  | _ :: _, [], h, _, _ => by simp at h
  | a :: ra, b :: rb, h, h1, h2 => by
    simp only [Lib.compareBytes] at h1 h2
    by_cases p : a < b
    · simp [p] at h1
    · by_cases q : b < a
      · simp [q] at h2
      · rw [if_neg p, if_neg q] at h1
        rw [if_neg q, if_neg p] at h2
        have e : a = b := UInt8.le_antisymm (UInt8.not_lt.1 q) (UInt8.not_lt.1 p)
        rw [e, cmp_eq0 ra rb (by simpa using h) h1 h2]
theorem cmp_asym : ∀ a b : List UInt8, Lib.compareBytes a b < 0 → ¬ Lib.compareBytes b a < 0
  | [], [], h => by simp [Lib.compareBytes] at h
  | [], _ :: _, _ => by simp [Lib.compareBytes]
  | _ :: _, [], h => by simp [Lib.compareBytes] at h
  | a :: ra, b :: rb, h => by
    simp only [Lib.compareBytes] at h ⊢
    by_cases p : a < b
    · have q : ¬ b < a := fun q => UInt8.lt_irrefl _ (UInt8.lt_trans p q)
      rw [if_neg q, if_pos p]; omega
    · by_cases q : b < a
      · rw [if_neg p, if_pos q] at h; omega
      · rw [if_neg p, if_neg q] at h
        rw [if_neg q, if_neg p]
        exact cmp_asym ra rb h
theorem cmp_trans : ∀ a b c : List UInt8, Lib.compareBytes a b < 0 → Lib.compareBytes b c < 0 → Lib.compareBytes a c < 0
  | [], [], _, h, _ => by simp [Lib.compareBytes] at h
  | _ :: _, [], _, h, _ => by simp [Lib.compareBytes] at h
  | _, _ :: _, [], _, h => by simp [Lib.compareBytes] at h
  | [], _ :: _, _ :: _, _, _ => by simp [Lib.compareBytes]
  | a :: ra, b :: rb, c :: rc, h1, h2 => by
    simp only [Lib.compareBytes] at h1 h2 ⊢
    by_cases p : a < b
    · by_cases q : b < c
      · rw [if_pos (UInt8.lt_trans p q)]; omega
      · rw [if_neg q] at h2
        by_cases q' : c < b
        · rw [if_pos q'] at h2; omega
        · have e : b = c := UInt8.le_antisymm (UInt8.not_lt.1 q') (UInt8.not_lt.1 q)
          subst e
          rw [if_pos p]; omega
    · rw [if_neg p] at h1
      by_cases p' : b < a
      · rw [if_pos p'] at h1; omega
      · rw [if_neg p'] at h1
        have e : a = b := UInt8.le_antisymm (UInt8.not_lt.1 p') (UInt8.not_lt.1 p)
        subst e
        by_cases q : a < c
        · rw [if_pos q]; omega
        · rw [if_neg q] at h2 ⊢
          by_cases q' : c < a
          · rw [if_pos q'] at h2; omega
          · rw [if_neg q'] at h2 ⊢
            exact cmp_trans ra rb rc h1 h2

theorem run_compareRow (w : World) (b b' o o' c c' : Nat) (xs ys : List Int) (hx : ∀ i, i < xs.length → w.cell? ⟨b, o + i, none⟩ = some (.int .u8 (xs.getD i 0))) (hy : ∀ i, i < ys.length → w.cell? ⟨b', o' + i, none⟩ = some (.int .u8 (ys.getD i 0))) :
    (Extern.BytealgCompare.compare #[.slice (some ⟨b, o, none⟩) xs.length c, .slice (some ⟨b', o', none⟩) ys.length c']).run Try.prog w = .ok (.int .i64 (Lib.compareBytes (Lib.bytesOf xs) (Lib.bytesOf ys))) w := by
  have key : ∀ (q p : Nat) (zs : List Int), (∀ i, i < zs.length → w.cell? ⟨q, p + i, none⟩ = some (.int .u8 (zs.getD i 0))) → (Extern.Bytes.loadBytes ⟨q, p, none⟩ zs.length .empty).run Try.prog w = .ok ⟨(Lib.bytesOf zs).toArray⟩ w := fun q p zs hz => by
    have hl := Lib.run_loadBytesX (P := Try.prog) w zs ⟨q, p, none⟩ .empty (fun j x hj => by
      have hjl : j < zs.length := (List.getElem?_eq_some_iff.1 hj).1
      have e : (⟨q, p, none⟩ : Addr).add j = ⟨q, p + j, none⟩ := by unfold Addr.add; split <;> simp_all
      rw [e, hz j hjl, List.getD_eq_getElem?_getD, hj]
      rfl)
    rw [hl]
    congr 1
    apply ByteArray.ext
    simp
  change Sem.run Try.prog (do pure (goInt (Extern.BytealgCompare.cmp (← Extern.Bytes.bytesOf (.slice (some ⟨b, o, none⟩) xs.length c)) (← Extern.Bytes.bytesOf (.slice (some ⟨b', o', none⟩) ys.length c'))))) w = _
  simp only [Extern.Bytes.bytesOf, Sem.run_bind, Sem.run_pure, Result.andThen, key b o xs hx, key b' o' ys hy]
  rw [Lib.cmp_eq]
  simp [goInt]

set_option maxHeartbeats 800000 in
set_option maxRecDepth 100000 in
theorem compare_any (w : World) (b b' o o' c c' : Nat) (xs ys : List Int) (hx : ∀ i, i < xs.length → w.cell? ⟨b, o + i, none⟩ = some (.int .u8 (xs.getD i 0))) (hy : ∀ i, i < ys.length → w.cell? ⟨b', o' + i, none⟩ = some (.int .u8 (ys.getD i 0))) :
    Calls Try.prog 72 #[.slice (some ⟨b, o, none⟩) xs.length c, .slice (some ⟨b', o', none⟩) ys.length c'] w fun e w' => e = .returned (.int .i64 (Lib.compareBytes (Lib.bytesOf xs) (Lib.bytesOf ys))) ∧ w = w' := by
  have HR : Hid _ := run_compareRow w b b' o o' c c' xs ys hx hy
  clear hx hy
  go_enter Try.func72, Try.ntmps72
  go_wp2
  rw [run_callFunc_extern Try.func91 (by kernel_rfl) (by kernel_rfl) (by kernel_rfl) (e := Extern.BytealgCompare.compare) (by kernel_rfl), HR.out]
  simp only [Result.andThen]
  rw [Oper.upon_value]
  go_wp2
  go_ret
  exact ⟨rfl, rfl⟩

theorem cmpI_any (a b : Int) (w : World) : Calls Try.prog 71 #[.int .i64 a, .int .i64 b] w fun e w' => e = .returned (.int .i64 (if a < b then -1 else if b < a then 1 else 0)) ∧ w = w' := by
  by_cases h1 : a < b
  · rw [if_pos h1]
    go_enter Try.func71, Try.ntmps71
    go_wp2
    go_ret
    exact ⟨rfl, rfl⟩
  · by_cases h2 : b < a
    · rw [if_neg h1, if_pos h2]
      go_enter Try.func71, Try.ntmps71
      go_wp2
      go_ret
      exact ⟨rfl, rfl⟩
    · rw [if_neg h1, if_neg h2]
      go_enter Try.func71, Try.ntmps71
      go_wp2
      go_ret
      exact ⟨rfl, rfl⟩
def ciV (a b : Int) : Int := if a < b then -1 else if b < a then 1 else 0
def orV (a b c : Int) : Int := if a ≠ 0 then a else if b ≠ 0 then b else c
theorem Gr.refl (w : World) : Gr w w := ⟨Below.refl _ _, Nat.le_refl _⟩
theorem Gr.alloc (w : World) (o : Obj) : Gr w (w.alloc o) := ⟨(Below.refl _ _).alloc (Nat.le_refl _) _, Nat.le_refl _⟩
theorem Gr.drew (w : World) : Gr w w.drew := ⟨(Below.refl _ _).drew, Nat.le_succ _⟩
set_option maxHeartbeats 1600000 in
set_option maxRecDepth 100000 in
theorem or_any (a b c : Int) (B : Nat) (w : World) (h0 : w.cell? ⟨B, 0, none⟩ = some (.int .i64 a)) (h1 : w.cell? ⟨B, 1, none⟩ = some (.int .i64 b)) (h2 : w.cell? ⟨B, 2, none⟩ = some (.int .i64 c)) :
    Calls Try.prog 70 #[.slice (some ⟨B, 0, none⟩) 3 3] w fun e w' => e = .returned (.int .i64 (orV a b c)) ∧ w = w' := by
  have H : Hid (w.cell? ⟨B, 0, none⟩ = some (.int .i64 a) ∧ w.cell? ⟨B, 1, none⟩ = some (.int .i64 b) ∧ w.cell? ⟨B, 2, none⟩ = some (.int .i64 c)) := ⟨h0, h1, h2⟩
  clear h0 h1 h2
  go_enter Try.func70, Try.ntmps70
  go_wp2_with fail
  go_loopw [8] (fun ix wr => ∃ k : Nat, ix = .int .i64 k ∧ k ≤ 3 ∧ w = wr ∧ Hid ((0 < k → a = 0) ∧ (1 < k → b = 0) ∧ (2 < k → c = 0))) (fun ix _ => 3 - (intOf ix).toNat)
  case atStart => exact ⟨0, rfl, by omega, rfl, by omega, by omega, by omega⟩
  case round =>
    obtain ⟨k, rfl, hk, rfl, HZ⟩ := hrel
    by_cases hlt : k < 3
    · have k0 : (0 : Int) ≤ (k : Int) := by omega
      have k1 : (k : Int) < 3 := by omega
      have k2 : ((k : Int)).toNat = k := by omega
      have wk : IntKind.i64.wrap ((k : Int) + 1) = (k : Int) + 1 := by rw [IntKind.wrap_i64]; omega
      obtain ⟨v, hv⟩ : ∃ v : Int, v = if k = 0 then a else if k = 1 then b else c := ⟨_, rfl⟩
      have hc : w.cell? ⟨B, k, none⟩ = some (.int .i64 v) := by
        have : k = 0 ∨ k = 1 ∨ k = 2 := by omega
        rcases this with rfl | rfl | rfl
        · rw [hv]; exact H.out.1
        · rw [hv]; exact H.out.2.1
        · rw [hv]; exact H.out.2.2
      have HV : Hid (v = if k = 0 then a else if k = 1 then b else c) := hv
      have HK : Hid (k < 3) := hlt
      clear hv hlt hk
      by_cases hz : v = 0
      · have hz1 : (v != 0) = false := by simpa using hz
        have HN : Hid ((0 < k + 1 → a = 0) ∧ (1 < k + 1 → b = 0) ∧ (2 < k + 1 → c = 0)) := by
          have h1 := HV.out
          have h2 := HZ.out
          have h3 := HK.out
          rw [hz] at h1
          have : k = 0 ∨ k = 1 ∨ k = 2 := by omega
          rcases this with rfl | rfl | rfl
          · exact ⟨fun _ => h1.symm, by omega, by omega⟩
          · exact ⟨fun _ => h2.1 (by omega), fun _ => h1.symm, by omega⟩
          · exact ⟨fun _ => h2.1 (by omega), fun _ => h2.2.1 (by omega), fun _ => h1.symm⟩
        subst hz
        go_wp2_with fail
        go_roundw
        case rel => exact ⟨k + 1, by simp, by have := HK.out; omega, by first | trivial | rfl, HN⟩
        case measure => have := HK.out; simp [intOf]; omega
      · have hz1 : (v != 0) = true := by simpa using hz
        have HE : Hid (orV a b c = v) := by
          have h1 := HV.out
          have h2 := HZ.out
          have h3 := HK.out
          show orV a b c = v
          unfold orV
          have : k = 0 ∨ k = 1 ∨ k = 2 := by omega
          rcases this with rfl | rfl | rfl
          · simp at h1; rw [if_pos (by omega)]; exact h1.symm
          · simp at h1; rw [if_neg (by have := h2.1 (by omega); omega), if_pos (by omega)]; exact h1.symm
          · simp at h1; rw [if_neg (by have := h2.1 (by omega); omega), if_neg (by have := h2.2.1 (by omega); omega)]; exact h1.symm
        clear hz
        go_wp2_with fail
        go_ret
        exact ⟨by rw [HE.out]; rfl, rfl⟩
    · have k1 : ¬ (k : Int) < 3 := by omega
      have HE : Hid (orV a b c = 0) := by
        have h2 := HZ.out
        show orV a b c = 0
        unfold orV
        rw [if_neg (by have := h2.1 (by omega); omega), if_neg (by have := h2.2.1 (by omega); omega)]
        exact h2.2.2 (by omega)
      clear hlt
      go_wp2_with fail
      go_ret
      exact ⟨by rw [HE.out]; rfl, rfl⟩
/-- which of two entries comes first -/
def ordV (a b : KV) : Int := orV (ciV a.pt b.pt) (ciV a.V b.V) (Lib.compareBytes (by16 a.x) (by16 b.x))
theorem key_cmp {A : World} {B C : Nat} {a b : KV} (ha : KeyAt A B a) (hb : KeyAt A C b) : Calls Try.prog 72 #[.slice (some ⟨B, 2, none⟩) 16 16, .slice (some ⟨C, 2, none⟩) 16 16] A fun e w' => e = .returned (.int .i64 (Lib.compareBytes (by16 a.x) (by16 b.x))) ∧ A = w' := by
  have key : ∀ (D : Nat) (k : KV), KeyAt A D k → ∀ i, i < (toI (ipL k.x 16)).length → A.cell? ⟨D, 2 + i, none⟩ = some (.int .u8 ((toI (ipL k.x 16)).getD i 0)) := fun D k hk i hi => by
    rw [toI_len, ipL_len] at hi
    rw [toI_getD, hk.cell]
    have := lt20' (show i < 20 by omega)
    rcases this with rfl | rfl | rfl | rfl | rfl | rfl | rfl | rfl | rfl | rfl | rfl | rfl | rfl | rfl | rfl | rfl | rfl | rfl | rfl | rfl
    all_goals first | rfl | omega
  have h := compare_any A B C 2 2 16 16 (toI (ipL a.x 16)) (toI (ipL b.x 16)) (key B a ha) (key C b hb)
  rw [show (toI (ipL a.x 16)).length = 16 from by rw [toI_len, ipL_len], show (toI (ipL b.x 16)).length = 16 from by rw [toI_len, ipL_len]] at h
  exact h
theorem run_bs3 (p q r : Int) (w : World) : (Instr.buildSlice 39 3 #[(0, .int .i64 p), (1, .int .i64 q), (2, .int .i64 r)]).run Try.prog w = .ok (.slice (some ⟨w.heap.size, 0, none⟩) 3 3) (w.alloc (.cells #[.int .i64 p, .int .i64 q, .int .i64 r] 3)) := by kernel_rfl
theorem wpList_bs3 {ops : Array Oper} {rest : List Oper} {o : Oper} {a : Act} {w : World} {Q : Exit → Act → World → Prop} (x y z : Operand) (ho : o.op = .buildSlice 39 3 #[(0, x), (1, y), (2, z)]) (p q r : Int) (hx : a.eval x = .int .i64 p) (hy : a.eval y = .int .i64 q) (hz : a.eval z = .int .i64 r) (hw : Region.wanted o (yielded ops a.tmps) = true)
    (h : wpList Try.prog ops Q rest (a.put o.dst (.slice (some ⟨w.heap.size, 0, none⟩) 3 3)) (w.alloc (.cells #[.int .i64 p, .int .i64 q, .int .i64 r] 3))) : wpList Try.prog ops Q (o :: rest) a w := by
  refine wpList_step fun K hK => ?_
  rw [if_pos hw]
  have hrun : (execOp a.eval o).run Try.prog w = .ok (.value (.slice (some ⟨w.heap.size, 0, none⟩) 3 3)) (w.alloc (.cells #[.int .i64 p, .int .i64 q, .int .i64 r] 3)) := by
    obtain ⟨dst, op, type, pos, after, guard⟩ := o
    simp only at ho
    subst ho
    simp only [execOp, Sem.run_bind, List.map_toArray, List.map_cons, List.map_nil, hx, hy, hz, run_bs3 p q r w, Result.andThen_ok]
    rfl
  unfold Oper.wp
  rw [hrun]
  exact hK _ _ h
set_option maxHeartbeats 3200000 in
set_option maxRecDepth 100000 in
theorem order_gr (a b : KV) (w : World) : Calls Try.prog 55 #[.agg (kC a), .agg (kC b)] w fun e w' => e = .returned (.int .i64 (ordV a b)) ∧ Gr w w' := by
  have ha := key_new w a
  have hb := key_new (w.alloc (.cells (kC a) 98)) b
  have g1 : Gr w (w.alloc (.cells (kC a) 98)) := Gr.alloc _ _
  have g2 : Gr (w.alloc (.cells (kC a) 98)) ((w.alloc (.cells (kC a) 98)).alloc (.cells (kC b) 98)) := Gr.alloc _ _
  have ha2 := ha.below g2.1
  have g3 := g1.trans g2
  rw [World.size_alloc] at hb
  obtain ⟨p1, hp1⟩ : ∃ p, p = ciV a.pt b.pt := ⟨_, rfl⟩
  obtain ⟨p2, hp2⟩ : ∃ p, p = ciV a.V b.V := ⟨_, rfl⟩
  obtain ⟨p3, hp3⟩ : ∃ p, p = Lib.compareBytes (by16 a.x) (by16 b.x) := ⟨_, rfl⟩
  have HV : Hid (ordV a b = orV p1 p2 p3) := by show ordV a b = _; unfold ordV; rw [hp1, hp2, hp3]
  have HP : Hid ((if a.pt < b.pt then (-1 : Int) else if b.pt < a.pt then 1 else 0) = p1 ∧ (if a.V < b.V then (-1 : Int) else if b.V < a.V then 1 else 0) = p2 ∧ Lib.compareBytes (by16 a.x) (by16 b.x) = p3) := ⟨hp1.symm, hp2.symm, hp3.symm⟩
  obtain ⟨W, hW⟩ : ∃ W, W = (w.alloc (.cells (kC a) 98)).alloc (.cells (kC b) 98) := ⟨_, rfl⟩
  rw [← hW] at ha2 hb g3
  obtain ⟨B, hB⟩ : ∃ B, B = w.heap.size := ⟨_, rfl⟩
  rw [← hB] at ha2 hb
  have HK : Hid (KeyAt W B a ∧ KeyAt W (B + 1) b ∧ Gr w W) := ⟨ha2, hb, g3⟩
  obtain ⟨CA, hCA⟩ : ∃ C, C = kC a := ⟨_, rfl⟩
  obtain ⟨CB, hCB⟩ : ∃ C, C = kC b := ⟨_, rfl⟩
  rw [← hCA, ← hCB] at hW ⊢
  have HW : Hid ((w.alloc (.cells CA 98)).alloc (.cells CB 98) = W ∧ w.heap.size = B) := ⟨hW.symm, hB.symm⟩
  clear ha hb g1 g2 ha2 g3 hp1 hp2 hp3 hW hB hCA hCB
  go_enter Try.func55, Try.ntmps55
  go_upto_region 1 with fail
  rw [HW.out.1, HW.out.2]
  refine MixH.start (fun A => KeyAt A B a ∧ KeyAt A (B + 1) b ∧ Gr w A) (by kernel_rfl) ?_
  obtain ⟨wA, hwA⟩ : ∃ wA, wA = W.drew := ⟨_, rfl⟩
  have gdr : Gr W wA := by rw [hwA]; exact Gr.drew _
  have hS : KeyAt wA B a ∧ KeyAt wA (B + 1) b ∧ Gr w wA := ⟨HK.out.1.below gdr.1, HK.out.2.1.below gdr.1, HK.out.2.2.trans gdr⟩
  rw [← hwA]
  clear hwA gdr
  refine MixH.takes [true, false, true, false, false, true, true, false, true, true, false, false, true, true, true, true, true, true] 10 (by kernel_rfl) (by kernel_rfl) (by decide) (by kernel_rfl) hS (fun K hK => ?_)
  simp only [Mix.pick]
  repeat (go_big_quiet_step (fail))
  refine wpQuiet_nil (hK _ ?_)
  clear hK K
  refine MixH.take 9 1 _ (.int .i64 a.pt) rfl (by kernel_rfl) (by kernel_rfl) (by kernel_rfl) (by kernel_rfl) (yields_int (.tmp 5) rfl ⟨B, 0, none⟩ (.int .i64 a.pt) rfl rfl (fun A hA => hA.1.cell 0)) hS (fun a' ha => ?_)
  simp only [Act.put, List.setIfInBounds_toArray, List.set_cons_succ, List.set_cons_zero] at ha
  subst ha
  refine MixH.take 8 3 _ (.int .i64 b.pt) rfl (by kernel_rfl) (by kernel_rfl) (by kernel_rfl) (by kernel_rfl) (yields_int (.tmp 7) rfl ⟨B + 1, 0, none⟩ (.int .i64 b.pt) rfl rfl (fun A hA => hA.2.1.cell 0)) hS (fun a' ha => ?_)
  simp only [Act.put, List.setIfInBounds_toArray, List.set_cons_succ, List.set_cons_zero] at ha
  subst ha
  refine MixH.take 7 7 _ (.int .i64 a.V) rfl (by kernel_rfl) (by kernel_rfl) (by kernel_rfl) (by kernel_rfl) (yields_int (.tmp 11) rfl ⟨B, 1, none⟩ (.int .i64 a.V) rfl rfl (fun A hA => hA.1.cell 1)) hS (fun a' ha => ?_)
  simp only [Act.put, List.setIfInBounds_toArray, List.set_cons_succ, List.set_cons_zero] at ha
  subst ha
  refine MixH.take 6 10 _ (.int .i64 b.V) rfl (by kernel_rfl) (by kernel_rfl) (by kernel_rfl) (by kernel_rfl) (yields_int (.tmp 14) rfl ⟨B + 1, 1, none⟩ (.int .i64 b.V) rfl rfl (fun A hA => hA.2.1.cell 1)) hS (fun a' ha => ?_)
  simp only [Act.put, List.setIfInBounds_toArray, List.set_cons_succ, List.set_cons_zero] at ha
  subst ha
  refine MixH.one [false, false, false, false, true] 5 4 _ rfl rfl (by kernel_rfl) (by kernel_rfl) (fun K hK => ?_)
  simp only [Mix.pick]
  go_wp2_with fail
  refine Calls.mono (cmpI_any a.pt b.pt wA) ?_
  rintro e w1 ⟨rfl, rfl⟩
  rw [HP.out.1]
  go_wp2_with fail
  refine ⟨rfl, hK _ _ hS ?_⟩
  clear hK K
  refine MixH.one [false, false, false, false, false, false, false, false, false, false, false, true] 4 11 _ rfl rfl (by kernel_rfl) (by kernel_rfl) (fun K hK => ?_)
  simp only [Mix.pick]
  go_wp2_with fail
  refine Calls.mono (cmpI_any a.V b.V wA) ?_
  rintro e w1 ⟨rfl, rfl⟩
  rw [HP.out.2.1]
  go_wp2_with fail
  refine ⟨rfl, hK _ _ hS ?_⟩
  clear hK K
  refine MixH.one [false, false, false, false, false, false, false, false, false, false, false, false, false, false, false, false, false, false, true] 3 18 _ rfl rfl (by kernel_rfl) (by kernel_rfl) (fun K hK => ?_)
  simp only [Mix.pick]
  go_wp2_with fail
  refine Calls.mono (key_cmp hS.1 hS.2.1) ?_
  rintro e w1 ⟨rfl, rfl⟩
  rw [HP.out.2.2]
  go_wp2_with fail
  refine ⟨rfl, hK _ _ hS ?_⟩
  clear hK K
  refine MixH.one [false, false, false, false, false, false, false, false, false, false, false, false, false, false, false, false, false, false, false, true] 2 19 _ rfl rfl (by kernel_rfl) (by kernel_rfl) (fun K hK => ?_)
  simp only [Mix.pick]
  refine wpList_bs3 (.tmp 9) (.tmp 16) (.tmp 23) rfl p1 p2 p3 rfl rfl rfl rfl ?_
  obtain ⟨wB, hwB⟩ : ∃ wB, wB = wA.alloc (.cells #[.int .i64 p1, .int .i64 p2, .int .i64 p3] 3) := ⟨_, rfl⟩
  have gB : Gr wA wB := by rw [hwB]; exact Gr.alloc _ _
  have HC3 : Hid (wB.cell? ⟨wA.heap.size, 0, none⟩ = some (.int .i64 p1) ∧ wB.cell? ⟨wA.heap.size, 1, none⟩ = some (.int .i64 p2) ∧ wB.cell? ⟨wA.heap.size, 2, none⟩ = some (.int .i64 p3)) := by
    rw [hwB]
    refine ⟨?_, ?_, ?_⟩ <;> (rw [World.cell?_alloc_at _ _ _ _ rfl]; rfl)
  replace hS : KeyAt wB B a ∧ KeyAt wB (B + 1) b ∧ Gr w wB := ⟨hS.1.below gB.1, hS.2.1.below gB.1, hS.2.2.trans gB⟩
  rw [← hwB]
  clear hwB gB
  go_wp2_with fail
  refine ⟨rfl, hK _ _ hS ?_⟩
  clear hK K
  refine MixH.one [false, false, false, false, false, false, false, false, false, false, false, false, false, false, false, false, false, false, false, false, true] 1 20 _ rfl rfl (by kernel_rfl) (by kernel_rfl) (fun K hK => ?_)
  simp only [Mix.pick]
  go_wp2_with fail
  refine Calls.mono (or_any p1 p2 p3 wA.heap.size wB HC3.out.1 HC3.out.2.1 HC3.out.2.2) ?_
  rintro e w1 ⟨rfl, rfl⟩
  go_wp2_with fail
  refine ⟨rfl, hK _ _ hS ?_⟩
  clear hK K
  refine MixH.takes [false, false, false, false, false, false, false, false, false, false, false, false, false, false, false, false, false, false, false, false, false, true] 0 (by kernel_rfl) (by kernel_rfl) (by decide) (by kernel_rfl) hS (fun K hK => ?_)
  simp only [Mix.pick]
  repeat (go_big_quiet_step (fail))
  refine wpQuiet_nil (hK _ ?_)
  clear hK K
  refine MixH.done (by kernel_rfl) ?_
  have HE : Hid (Gr w wB) := hS.2.2
  clear hS
  go_wp2
  go_ret
  exact ⟨by rw [HV.out]; rfl, HE.out⟩
end Go.Proofs.Ytnpipngiehohgaa
