/-
  weirlaw4.AddrForms' harness: written.
-/
import Derived.Test.YtfeabifjnihooaaDoorAdV2
namespace Go.Proofs.YtfeabifjnihooaaDoor
open Go.RowKit Go.Maps

def cpW (way : Int) : Bool := bits BinOp.and IntKind.i64 way 1 == 1
def stW (way : Int) : Bool := bits BinOp.and IntKind.i64 way 2 == 2
def dgL (cap : Bool) : ByteArray := if cap then ⟨#[48, 49, 50, 51, 52, 53, 54, 55, 56, 57, 65, 66, 67, 68, 69, 70]⟩ else ⟨#[48, 49, 50, 51, 52, 53, 54, 55, 56, 57, 97, 98, 99, 100, 101, 102]⟩
theorem dgL_at {cap : Bool} {n : Nat} (h : n < 16) : sB (dgL cap) n = dgC cap n := by
  have : ∀ c : Bool, ∀ k : Fin 16, sB (dgL c) k.val = dgC c k.val := by decide +kernel
  exact this cap ⟨n, h⟩
theorem dgL_sz (cap : Bool) : (dgL cap).size = 16 := by cases cap <;> rfl
theorem tx_0 {a : Nat} {r : List Nat} (h : a < 256) : sB (txB (a :: r)) 0 = a := by
  unfold sB
  rw [txB_data]
  show (UInt8.ofNat a).toNat = a
  simp
  omega
theorem tx_1 (a : Nat) (r : List Nat) : (txB (a :: r)).extract 1 (txB (a :: r)).size = txB r := by
  apply ByteArray.ext
  rw [ByteArray.data_extract, txB_size]
  unfold txB
  apply Array.ext'
  rw [Array.toList_extract, List.extract_eq_take_drop]
  simp
  exact List.take_of_length_le (by simp)
theorem w4_lt {cap : Bool} {h l : Nat} (hh : h < 256) (hl : l < 256) : ∀ c ∈ w4 cap h l, c < 256 := by
  intro c hc
  exact hxB_ltV ((w4_grp (cap := cap) hh hl).hx c hc)
def szV : Value → Nat
  | .string s => s.size
  | _ => 0
set_option maxHeartbeats 1600000 in
set_option maxRecDepth 100000 in
theorem written_any (h l : Nat) (way : Int) (w : World) (hh : h < 256) (hl : l < 256) : Calls Tryd.prog 8 #[.int .u8 (h : Nat), .int .u8 (l : Nat), .int .i64 way] w fun r w' => r = .returned (.string (txB (wrD (cpW way) (stW way) h l))) ∧ Below w.heap.size w w' := by
  have HH : Hid (h < 256 ∧ l < 256) := ⟨hh, hl⟩
  clear hh hl
  go_enter Tryd.func8, Tryd.ntmps8
  cases hc : cpW way with
  | false =>
    have g1 : (bits BinOp.and IntKind.i64 way 1 == 1) = false := hc
    clear hc
    go_upto_region 4 with fail
    refine MixH.start (fun A => Below w.heap.size w A) (by kernel_rfl) ?_
    obtain ⟨wA, hwA⟩ : ∃ W_, W_ = w.drew := ⟨_, rfl⟩
    have bdr : Below w.heap.size w wA := by rw [hwA]; exact (Below.refl _ _).drew
    have hS : Below w.heap.size w wA := bdr
    rw [← hwA]
    clear hwA bdr
    refine MixH.takes [true, true, true, false, true, true, true, false, true, true, true, false, true, true, true] 7 (by kernel_rfl) (by kernel_rfl) (by decide) (by kernel_rfl) hS (fun K hK => ?_)
    simp only [Mix.pick]
    repeat (go_big_quiet_step (fail))
    refine wpQuiet_nil (hK _ ?_)
    clear hK K
    refine MixH.take 6 3 _ (.int .u8 (sB (dgL false) (h / 16) : Nat)) rfl (by kernel_rfl) (by kernel_rfl) (by kernel_rfl) (by kernel_rfl) (yields_sBu (.tmp 12) (.tmp 14) rfl .u8 (dgL false) (h / 16) ((h : Int) / 16 % 256) rfl rfl (by have := HH.out; omega) (by have := HH.out; rw [dgL_sz]; omega) rfl) hS (fun a' ha => ?_)
    simp only [Act.put, List.setIfInBounds_toArray, List.set_cons_succ, List.set_cons_zero] at ha
    subst ha
    refine MixH.take 5 7 _ (.int .u8 (sB (dgL false) (h % 16) : Nat)) rfl (by kernel_rfl) (by kernel_rfl) (by kernel_rfl) (by kernel_rfl) (yields_sBu (.tmp 16) (.tmp 18) rfl .u8 (dgL false) (h % 16) ((h : Int) % 16) rfl rfl (by have := HH.out; omega) (by have := HH.out; rw [dgL_sz]; omega) rfl) hS (fun a' ha => ?_)
    simp only [Act.put, List.setIfInBounds_toArray, List.set_cons_succ, List.set_cons_zero] at ha
    subst ha
    refine MixH.take 4 11 _ (.int .u8 (sB (dgL false) (l / 16) : Nat)) rfl (by kernel_rfl) (by kernel_rfl) (by kernel_rfl) (by kernel_rfl) (yields_sBu (.tmp 20) (.tmp 22) rfl .u8 (dgL false) (l / 16) ((l : Int) / 16 % 256) rfl rfl (by have := HH.out; omega) (by have := HH.out; rw [dgL_sz]; omega) rfl) hS (fun a' ha => ?_)
    simp only [Act.put, List.setIfInBounds_toArray, List.set_cons_succ, List.set_cons_zero] at ha
    subst ha
    refine MixH.take 3 15 _ (.int .u8 (sB (dgL false) (l % 16) : Nat)) rfl (by kernel_rfl) (by kernel_rfl) (by kernel_rfl) (by kernel_rfl) (yields_sBu (.tmp 24) (.tmp 26) rfl .u8 (dgL false) (l % 16) ((l : Int) % 16) rfl rfl (by have := HH.out; omega) (by have := HH.out; rw [dgL_sz]; omega) rfl) hS (fun a' ha => ?_)
    simp only [Act.put, List.setIfInBounds_toArray, List.set_cons_succ, List.set_cons_zero] at ha
    subst ha
    refine MixH.one [false, false, false, false, false, false, false, false, false, false, false, false, false, false, false, false, true] 2 16 _ rfl rfl (by kernel_rfl) (by kernel_rfl) (fun K hK => ?_)
    simp only [Mix.pick]
    go_wp2_with fail
    obtain ⟨w3, hw3⟩ : ∃ W_, W_ = wA.alloc (.cells #[.int .u8 (sB (dgL false) (h / 16) : Nat), .int .u8 (sB (dgL false) (h % 16) : Nat), .int .u8 (sB (dgL false) (l / 16) : Nat), .int .u8 (sB (dgL false) (l % 16) : Nat)] 5) := ⟨_, rfl⟩
    have hS : Below w.heap.size w w3 := by rw [hw3]; exact hS.alloc hS.size _
    have kc : (convert 55 9 (.slice (some ⟨wA.heap.size, 0, none⟩) 4 4)).run Tryd.prog w3 = .ok (.string (txB (w4 false h l))) w3 := by
      rw [hw3]
      have e := conv_new wA (w4 false h l) (w4_lt HH.out.1 HH.out.2) 4 rfl
      have e2 : ((w4 false h l).map fun c => Value.int .u8 (c : Nat)).toArray = #[.int .u8 (sB (dgL false) (h / 16) : Nat), .int .u8 (sB (dgL false) (h % 16) : Nat), .int .u8 (sB (dgL false) (l / 16) : Nat), .int .u8 (sB (dgL false) (l % 16) : Nat)] := by
        rw [dgL_at (by have := HH.out; omega), dgL_at (by omega), dgL_at (by have := HH.out; omega), dgL_at (by omega)]
        rfl
      rw [e2] at e
      exact e
    rw [← hw3]
    clear hw3
    refine ⟨rfl, hK _ _ hS ?_⟩
    clear hK K
    refine MixH.one [false, false, false, false, false, false, false, false, false, false, false, false, false, false, false, false, false, true] 1 17 _ rfl rfl (by kernel_rfl) (by kernel_rfl) (fun K hK => ?_)
    simp only [Mix.pick]
    go_wp2_with fail
    clear kc
    refine ⟨rfl, hK _ _ hS ?_⟩
    clear hK K
    refine MixH.takes [false, false, false, false, false, false, false, false, false, false, false, false, false, false, false, false, false, false, true] 0 (by kernel_rfl) (by kernel_rfl) (by decide) (by kernel_rfl) hS (fun K hK => ?_)
    simp only [Mix.pick]
    repeat (go_big_quiet_step (fail))
    refine wpQuiet_nil (hK _ ?_)
    clear hK K
    refine MixH.done (by kernel_rfl) ?_
    have HB3 : Hid (Below w.heap.size w w3) := hS
    clear hS g1
    go_wp2
    go_loopw [8] (fun lv wr => ∃ L : List Nat, lv = .string (txB L) ∧ Hid (L ≠ [] ∧ (if stW way then stZ L else L) = wrD false (stW way) h l ∧ L.length ≤ 4 ∧ (∀ c ∈ L, c < 256) ∧ Below w.heap.size w wr)) (fun lv _ => szV lv)
    case atStart => exact ⟨_, rfl, by simp [w4], rfl, by simp [w4], w4_lt HH.out.1 HH.out.2, HB3.out⟩
    case round =>
      obtain ⟨L, rfl, HL⟩ := hrel
      cases hst : stW way with
      | false =>
        have g2 : (bits BinOp.and IntKind.i64 way 2 == 2) = false := hst
        have HE : Hid (L = wrD false (stW way) h l ∧ Below w.heap.size w wr) := ⟨by have := HL.out.2.1; rw [hst] at this ⊢; exact this, HL.out.2.2.2.2⟩
        clear HL hst
        go_wp2
        go_ret
        exact ⟨by rw [HE.out.1]; rfl, HE.out.2⟩
      | true =>
        have g2 : (bits BinOp.and IntKind.i64 way 2 == 2) = true := hst
        have H2 : Hid (L ≠ [] ∧ stZ L = wrD false (stW way) h l ∧ L.length ≤ 4 ∧ (∀ c ∈ L, c < 256) ∧ Below w.heap.size w wr) := by have := HL.out; rw [hst] at this ⊢; exact this
        have HST : Hid (stW way = true) := hst
        clear HL hst
        cases L with
        | nil => exact absurd rfl H2.out.1
        | cons a r =>
          cases r with
          | nil =>
            have HE : Hid ([a] = wrD false (stW way) h l ∧ Below w.heap.size w wr) := ⟨by rw [← H2.out.2.1, stZ_stop (by simp)], H2.out.2.2.2.2⟩
            have q1 : decide (((txB [a]).size : Int) > 1) = false := by rw [txB_size]; rfl
            have q2 : decide (1 < (txB [a]).size) = false := by rw [txB_size]; rfl
            have q3 : ¬ (1 : Int) < ((txB [a]).size : Int) := by rw [txB_size]; simp
            clear H2
            go_wp2
            go_ret
            exact ⟨by rw [HE.out.1]; rfl, HE.out.2⟩
          | cons b t =>
            have hsz : (txB (a :: b :: t)).size = t.length + 2 := by rw [txB_size]; rfl
            have q1 : decide (((txB (a :: b :: t)).size : Int) > 1) = true := decide_eq_true (by omega)
            have q2 : decide (1 < (txB (a :: b :: t)).size) = true := decide_eq_true (by omega)
            have q3 : (1 : Int) < ((txB (a :: b :: t)).size : Int) := by omega
            have HS0 : Hid (sB (txB (a :: b :: t)) 0 = a ∧ 0 < (txB (a :: b :: t)).size) := ⟨tx_0 (H2.out.2.2.2.1 a (List.mem_cons_self ..)), by omega⟩
            clear hsz
            by_cases h48 : a = 48
            · subst h48
              have q4 : ((sB (txB (48 :: b :: t)) 0 : Nat) : Int) = 48 := by have := HS0.out.1; omega
              have H3 : Hid (stZ (b :: t) = wrD false (stW way) h l ∧ t.length ≤ 2 ∧ (∀ c ∈ b :: t, c < 256) ∧ Below w.heap.size w wr) := ⟨by rw [← H2.out.2.1, stZ_step (by simp)], by have := H2.out.2.2.1; simp at this; omega, fun c hc => H2.out.2.2.2.1 c (List.mem_cons_of_mem _ hc), H2.out.2.2.2.2⟩
              clear H2
              go_wp2_with (refine wpList_sB (.tmp 39) (.const (.int .i64 0)) rfl (txB (48 :: b :: t)) 0 0 rfl rfl rfl HS0.out.2 rfl ?_)
              exact ⟨⟨b :: t, by rw [tx_1], by simp, by have h := H3.out.1; rw [HST.out] at h; exact h, by have := H3.out.2.1; simp; omega, H3.out.2.2.1, H3.out.2.2.2⟩, by rw [tx_1]; show (txB (b :: t)).size < (txB (48 :: b :: t)).size; rw [txB_size, txB_size]; simp⟩
            · have q4 : (((sB (txB (a :: b :: t)) 0 : Nat) : Int) == 48) = false := by have := HS0.out.1; simp; omega
              have HE : Hid (a :: b :: t = wrD false (stW way) h l ∧ Below w.heap.size w wr) := ⟨by rw [← H2.out.2.1, stZ_stop (by simp [h48])], H2.out.2.2.2.2⟩
              clear H2 h48
              go_wp2_with (refine wpList_sB (.tmp 39) (.const (.int .i64 0)) rfl (txB (a :: b :: t)) 0 0 rfl rfl rfl HS0.out.2 rfl ?_)
              go_ret
              exact ⟨by rw [HE.out.1]; rfl, HE.out.2⟩
  | true =>
    have g1 : (bits BinOp.and IntKind.i64 way 1 == 1) = true := hc
    clear hc
    go_upto_region 4 with fail
    refine MixH.start (fun A => Below w.heap.size w A) (by kernel_rfl) ?_
    obtain ⟨wA, hwA⟩ : ∃ W_, W_ = w.drew := ⟨_, rfl⟩
    have bdr : Below w.heap.size w wA := by rw [hwA]; exact (Below.refl _ _).drew
    have hS : Below w.heap.size w wA := bdr
    rw [← hwA]
    clear hwA bdr
    refine MixH.takes [true, true, true, false, true, true, true, false, true, true, true, false, true, true, true] 7 (by kernel_rfl) (by kernel_rfl) (by decide) (by kernel_rfl) hS (fun K hK => ?_)
    simp only [Mix.pick]
    repeat (go_big_quiet_step (fail))
    refine wpQuiet_nil (hK _ ?_)
    clear hK K
    refine MixH.take 6 3 _ (.int .u8 (sB (dgL true) (h / 16) : Nat)) rfl (by kernel_rfl) (by kernel_rfl) (by kernel_rfl) (by kernel_rfl) (yields_sBu (.tmp 12) (.tmp 14) rfl .u8 (dgL true) (h / 16) ((h : Int) / 16 % 256) rfl rfl (by have := HH.out; omega) (by have := HH.out; rw [dgL_sz]; omega) rfl) hS (fun a' ha => ?_)
    simp only [Act.put, List.setIfInBounds_toArray, List.set_cons_succ, List.set_cons_zero] at ha
    subst ha
    refine MixH.take 5 7 _ (.int .u8 (sB (dgL true) (h % 16) : Nat)) rfl (by kernel_rfl) (by kernel_rfl) (by kernel_rfl) (by kernel_rfl) (yields_sBu (.tmp 16) (.tmp 18) rfl .u8 (dgL true) (h % 16) ((h : Int) % 16) rfl rfl (by have := HH.out; omega) (by have := HH.out; rw [dgL_sz]; omega) rfl) hS (fun a' ha => ?_)
    simp only [Act.put, List.setIfInBounds_toArray, List.set_cons_succ, List.set_cons_zero] at ha
    subst ha
    refine MixH.take 4 11 _ (.int .u8 (sB (dgL true) (l / 16) : Nat)) rfl (by kernel_rfl) (by kernel_rfl) (by kernel_rfl) (by kernel_rfl) (yields_sBu (.tmp 20) (.tmp 22) rfl .u8 (dgL true) (l / 16) ((l : Int) / 16 % 256) rfl rfl (by have := HH.out; omega) (by have := HH.out; rw [dgL_sz]; omega) rfl) hS (fun a' ha => ?_)
    simp only [Act.put, List.setIfInBounds_toArray, List.set_cons_succ, List.set_cons_zero] at ha
    subst ha
    refine MixH.take 3 15 _ (.int .u8 (sB (dgL true) (l % 16) : Nat)) rfl (by kernel_rfl) (by kernel_rfl) (by kernel_rfl) (by kernel_rfl) (yields_sBu (.tmp 24) (.tmp 26) rfl .u8 (dgL true) (l % 16) ((l : Int) % 16) rfl rfl (by have := HH.out; omega) (by have := HH.out; rw [dgL_sz]; omega) rfl) hS (fun a' ha => ?_)
    simp only [Act.put, List.setIfInBounds_toArray, List.set_cons_succ, List.set_cons_zero] at ha
    subst ha
    refine MixH.one [false, false, false, false, false, false, false, false, false, false, false, false, false, false, false, false, true] 2 16 _ rfl rfl (by kernel_rfl) (by kernel_rfl) (fun K hK => ?_)
    simp only [Mix.pick]
    go_wp2_with fail
    obtain ⟨w3, hw3⟩ : ∃ W_, W_ = wA.alloc (.cells #[.int .u8 (sB (dgL true) (h / 16) : Nat), .int .u8 (sB (dgL true) (h % 16) : Nat), .int .u8 (sB (dgL true) (l / 16) : Nat), .int .u8 (sB (dgL true) (l % 16) : Nat)] 5) := ⟨_, rfl⟩
    have hS : Below w.heap.size w w3 := by rw [hw3]; exact hS.alloc hS.size _
    have kc : (convert 55 9 (.slice (some ⟨wA.heap.size, 0, none⟩) 4 4)).run Tryd.prog w3 = .ok (.string (txB (w4 true h l))) w3 := by
      rw [hw3]
      have e := conv_new wA (w4 true h l) (w4_lt HH.out.1 HH.out.2) 4 rfl
      have e2 : ((w4 true h l).map fun c => Value.int .u8 (c : Nat)).toArray = #[.int .u8 (sB (dgL true) (h / 16) : Nat), .int .u8 (sB (dgL true) (h % 16) : Nat), .int .u8 (sB (dgL true) (l / 16) : Nat), .int .u8 (sB (dgL true) (l % 16) : Nat)] := by
        rw [dgL_at (by have := HH.out; omega), dgL_at (by omega), dgL_at (by have := HH.out; omega), dgL_at (by omega)]
        rfl
      rw [e2] at e
      exact e
    rw [← hw3]
    clear hw3
    refine ⟨rfl, hK _ _ hS ?_⟩
    clear hK K
    refine MixH.one [false, false, false, false, false, false, false, false, false, false, false, false, false, false, false, false, false, true] 1 17 _ rfl rfl (by kernel_rfl) (by kernel_rfl) (fun K hK => ?_)
    simp only [Mix.pick]
    go_wp2_with fail
    clear kc
    refine ⟨rfl, hK _ _ hS ?_⟩
    clear hK K
    refine MixH.takes [false, false, false, false, false, false, false, false, false, false, false, false, false, false, false, false, false, false, true] 0 (by kernel_rfl) (by kernel_rfl) (by decide) (by kernel_rfl) hS (fun K hK => ?_)
    simp only [Mix.pick]
    repeat (go_big_quiet_step (fail))
    refine wpQuiet_nil (hK _ ?_)
    clear hK K
    refine MixH.done (by kernel_rfl) ?_
    have HB3 : Hid (Below w.heap.size w w3) := hS
    clear hS g1
    go_wp2
    go_loopw [8] (fun lv wr => ∃ L : List Nat, lv = .string (txB L) ∧ Hid (L ≠ [] ∧ (if stW way then stZ L else L) = wrD true (stW way) h l ∧ L.length ≤ 4 ∧ (∀ c ∈ L, c < 256) ∧ Below w.heap.size w wr)) (fun lv _ => szV lv)
    case atStart => exact ⟨_, rfl, by simp [w4], rfl, by simp [w4], w4_lt HH.out.1 HH.out.2, HB3.out⟩
    case round =>
      obtain ⟨L, rfl, HL⟩ := hrel
      cases hst : stW way with
      | false =>
        have g2 : (bits BinOp.and IntKind.i64 way 2 == 2) = false := hst
        have HE : Hid (L = wrD true (stW way) h l ∧ Below w.heap.size w wr) := ⟨by have := HL.out.2.1; rw [hst] at this ⊢; exact this, HL.out.2.2.2.2⟩
        clear HL hst
        go_wp2
        go_ret
        exact ⟨by rw [HE.out.1]; rfl, HE.out.2⟩
      | true =>
        have g2 : (bits BinOp.and IntKind.i64 way 2 == 2) = true := hst
        have H2 : Hid (L ≠ [] ∧ stZ L = wrD true (stW way) h l ∧ L.length ≤ 4 ∧ (∀ c ∈ L, c < 256) ∧ Below w.heap.size w wr) := by have := HL.out; rw [hst] at this ⊢; exact this
        have HST : Hid (stW way = true) := hst
        clear HL hst
        cases L with
        | nil => exact absurd rfl H2.out.1
        | cons a r =>
          cases r with
          | nil =>
            have HE : Hid ([a] = wrD true (stW way) h l ∧ Below w.heap.size w wr) := ⟨by rw [← H2.out.2.1, stZ_stop (by simp)], H2.out.2.2.2.2⟩
            have q1 : decide (((txB [a]).size : Int) > 1) = false := by rw [txB_size]; rfl
            have q2 : decide (1 < (txB [a]).size) = false := by rw [txB_size]; rfl
            have q3 : ¬ (1 : Int) < ((txB [a]).size : Int) := by rw [txB_size]; simp
            clear H2
            go_wp2
            go_ret
            exact ⟨by rw [HE.out.1]; rfl, HE.out.2⟩
          | cons b t =>
            have hsz : (txB (a :: b :: t)).size = t.length + 2 := by rw [txB_size]; rfl
            have q1 : decide (((txB (a :: b :: t)).size : Int) > 1) = true := decide_eq_true (by omega)
            have q2 : decide (1 < (txB (a :: b :: t)).size) = true := decide_eq_true (by omega)
            have q3 : (1 : Int) < ((txB (a :: b :: t)).size : Int) := by omega
            have HS0 : Hid (sB (txB (a :: b :: t)) 0 = a ∧ 0 < (txB (a :: b :: t)).size) := ⟨tx_0 (H2.out.2.2.2.1 a (List.mem_cons_self ..)), by omega⟩
            clear hsz
            by_cases h48 : a = 48
            · subst h48
              have q4 : ((sB (txB (48 :: b :: t)) 0 : Nat) : Int) = 48 := by have := HS0.out.1; omega
              have H3 : Hid (stZ (b :: t) = wrD true (stW way) h l ∧ t.length ≤ 2 ∧ (∀ c ∈ b :: t, c < 256) ∧ Below w.heap.size w wr) := ⟨by rw [← H2.out.2.1, stZ_step (by simp)], by have := H2.out.2.2.1; simp at this; omega, fun c hc => H2.out.2.2.2.1 c (List.mem_cons_of_mem _ hc), H2.out.2.2.2.2⟩
              clear H2
              go_wp2_with (refine wpList_sB (.tmp 39) (.const (.int .i64 0)) rfl (txB (48 :: b :: t)) 0 0 rfl rfl rfl HS0.out.2 rfl ?_)
              exact ⟨⟨b :: t, by rw [tx_1], by simp, by have h := H3.out.1; rw [HST.out] at h; exact h, by have := H3.out.2.1; simp; omega, H3.out.2.2.1, H3.out.2.2.2⟩, by rw [tx_1]; show (txB (b :: t)).size < (txB (48 :: b :: t)).size; rw [txB_size, txB_size]; simp⟩
            · have q4 : (((sB (txB (a :: b :: t)) 0 : Nat) : Int) == 48) = false := by have := HS0.out.1; simp; omega
              have HE : Hid (a :: b :: t = wrD true (stW way) h l ∧ Below w.heap.size w wr) := ⟨by rw [← H2.out.2.1, stZ_stop (by simp [h48])], H2.out.2.2.2.2⟩
              clear H2 h48
              go_wp2_with (refine wpList_sB (.tmp 39) (.const (.int .i64 0)) rfl (txB (a :: b :: t)) 0 0 rfl rfl rfl HS0.out.2 rfl ?_)
              go_ret
              exact ⟨by rw [HE.out.1]; rfl, HE.out.2⟩
end Go.Proofs.YtfeabifjnihooaaDoor
