/-
  takeOption: one option.
-/
import Derived.Test.YtijipfciimcnpaaDoorI8Take1
namespace Go.Proofs.YtijipfciimcnpaaDoor
open Go.RowKit

/-- the length of the option at p, in units -/
def opU (d : List Nat) (p : Nat) : Nat := d.getD (p + 1) 0
def OpOk8 (d : List Nat) (p : Nat) : Prop := p + 2 ≤ d.length ∧ opU d p ≠ 0 ∧ p + 8 * opU d p ≤ d.length
instance (d : List Nat) (p : Nat) : Decidable (OpOk8 d p) := by unfold OpOk8; exact inferInstance
theorem getD_lt (d : List Nat) (h : ∀ x ∈ d, x < 256) (i : Nat) : d.getD i 0 < 256 := tgX_lt d h i
theorem cutA_some (g off p n : Nat) (h : n ≠ 0) : cutA (some ⟨g, off, none⟩) p n = some ⟨g, off + p, none⟩ := by
  unfold cutA
  rw [if_neg h]
  simp [Addr.add_lit]
theorem seg_some {w : World} {a : Option Addr} {d : List Nat} (h : Seg .u8 w a (toI d)) (h0 : 0 < d.length) : ∃ g off, a = some ⟨g, off, none⟩ ∧ ∀ i, i < d.length → w.cell? ⟨g, off + i, none⟩ = some (.int .u8 (d.getD i 0 : Nat)) := by
  rcases h with h | ⟨g, off, e, hc⟩
  · have h1 : d.length = 0 := by rw [← toI_len d, h]; rfl
    omega
  · refine ⟨g, off, e, fun i hi => ?_⟩
    rw [hc i (by rw [toI_len]; exact hi), toI_getD]
set_option maxHeartbeats 1600000 in
set_option maxRecDepth 100000 in
theorem takeOpt_any (B : Nat) (a : Option Addr) (d : List Nat) (p : Nat) (w : World) (hC : Cur w B a d.length p) (hp : p ≤ d.length) (hin : In B a (toI d).length) (hseg : Seg .u8 w a (toI d)) (h256 : ∀ x ∈ d, x < 256) (hl : d.length ≤ 65535) :
    Calls Tryd.prog 78 #[.pointer (some ⟨B, 0, none⟩)] w fun e w' => Ch (fun q => q = B) w w' ∧ ((¬ OpOk8 d p ∧ e = .returned (.tuple #[.int .i64 0, .slice none 0 0, .int .i64 85])) ∨ (OpOk8 d p ∧ e = .returned (.tuple #[.int .i64 (d.getD p 0 : Nat), .slice (cutA a (p + 2) (8 * opU d p - 2)) (8 * opU d p - 2 : Nat) (8 * opU d p - 2 : Nat), .int .i64 0]) ∧ Cur w' B a d.length (p + 8 * opU d p))) := by
  have HC : Hid (Cur w B a d.length p) := hC
  have HBL : Hid (B < w.heap.size) := hC.lt
  have HP : Hid (p ≤ d.length) := hp
  have HIN : Hid (In B a (toI d).length) := hin
  have HG : Hid (Seg .u8 w a (toI d)) := hseg
  have H256 : Hid (∀ x ∈ d, x < 256) := h256
  have HL : Hid (d.length ≤ 65535) := hl
  clear hC hp hin hseg h256 hl
  go_enter Tryd.func78, Tryd.ntmps78
  go_upto_region 1 with fail
  by_cases h2 : p + 2 ≤ d.length
  · have QW : Hid _ := curWindow_ok B a d.length p 2 w HC.out h2 (by have := HL.out; omega)
    go_wp2_with fail
    refine Calls.mono QW.out ?_
    rintro e w1 ⟨rfl, hc1, hg1⟩
    have k1 := grown_ch hg1
    have b1 := ch_below k1 HBL.out
    have HC1 : Hid (Cur w1 B a d.length (p + 2)) := hc1
    have hs1 : Seg .u8 w1 a (toI d) := HG.out.below HIN.out b1
    obtain ⟨g, off, rfl, hcell⟩ := seg_some hs1 (by omega)
    have hgB : g < B := by
      rcases HIN.out with h | ⟨g', off', e, h⟩
      · rw [toI_len] at h; omega
      · cases e; exact h
    rw [cutA_some g off p 2 (by omega)]
    obtain ⟨u, hu⟩ : ∃ u, u = opU d p := ⟨_, rfl⟩
    have hx1 : w1.cell? ⟨g, off + p + 1, none⟩ = some (.int .u8 (u : Nat)) := by rw [hu, Nat.add_assoc]; exact hcell (p + 1) (by omega)
    have hu256 : u < 256 := by rw [hu]; exact getD_lt d H256.out _
    have HU : Hid (u = opU d p) := hu
    have HH2 : Hid (p + 2 ≤ d.length) := h2
    have HGB : Hid (g < B) := hgB
    have HX0 : Hid (w1.cell? ⟨g, off + p, none⟩ = some (.int .u8 (d.getD p 0 : Nat))) := hcell p (by omega)
    have k1' : Ch (fun q => q = B) w w1 := k1
    have HBL1 : Hid (B < w1.heap.size) := hc1.lt
    clear hc1 hg1 k1 b1 QW hs1 hcell hu h2 hgB HIN HG HC
    by_cases hu0 : u = 0
    · subst hu0
      go_wp2
      go_ret3
      refine ⟨k1', .inl ⟨fun h => h.2.1 HU.out.symm, rfl⟩⟩
    · have e0 : ((u : Int) == 0) = false := beq_eq_false_iff_ne.2 (by omega)
      have w8 : IntKind.i64.wrap (8 * (u : Int)) = 8 * (u : Int) := i64_s _ (by omega) (by omega)
      obtain ⟨n, hn⟩ : ∃ n : Nat, n = 8 * u - 2 := ⟨_, rfl⟩
      have wn : IntKind.i64.wrap (8 * (u : Int) - 2) = (n : Int) := by rw [i64_s _ (by omega) (by omega)]; omega
      have HNN : Hid (n = 8 * u - 2) := hn
      clear hn
      by_cases h3 : p + 8 * u ≤ d.length
      · have hin3 : (p + 2) + n ≤ d.length := by have := HNN.out; omega
        have QW : Hid _ := curWindow_ok B (some ⟨g, off, none⟩) d.length (p + 2) n w1 HC1.out hin3 (by have := HL.out; omega)
        have HH3 : Hid (p + 8 * u ≤ d.length) := h3
        clear h3 hin3
        go_wp2_with fail

        refine Calls.mono QW.out ?_
        rintro e w2 ⟨rfl, hc2, hg2⟩
        have k2 := grown_ch hg2
        have b2 := ch_below k2 HBL1.out
        have hx0 : w2.cell? ⟨g, off + p, none⟩ = some (.int .u8 (d.getD p 0 : Nat)) := (b2.cell (p := ⟨g, off + p, none⟩) HGB.out).trans HX0.out
        have k2' : Ch (fun q => q = B) w w2 := k1'.trans k2 (fun _ _ h => h)
        have hd256 := getD_lt d H256.out p
        have HC2 : Hid (Cur w2 B (some ⟨g, off, none⟩) d.length (p + 2 + n)) := hc2
        have HU0 : Hid (u ≠ 0) := hu0
        have HKV : Hid (d.getD p 0 = d.getD p 0) := rfl
        obtain ⟨kv, hkv⟩ : ∃ kv, kv = d.getD p 0 := ⟨_, rfl⟩
        rw [← hkv] at hx0 hd256
        have HKV2 : Hid (kv = d.getD p 0) := hkv
        clear hc2 hg2 k2 b2 QW hkv HKV hu0 e0
        go_wp2
        go_ret3
        refine ⟨k2', .inr ⟨⟨HH2.out, by rw [← HU.out]; exact HU0.out, by rw [← HU.out]; exact HH3.out⟩, ?_, ?_⟩⟩
        · rw [← HU.out, ← HNN.out, ← HKV2.out]; rfl
        · have e : p + 8 * opU d p = p + 2 + n := by have := HNN.out; have := HU.out; have := HU0.out; omega
          rw [e]; exact HC2.out
      · have QW : Hid _ := curWindow_bad B (some ⟨g, off, none⟩) d.length (p + 2) (n : Int) w1 HC1.out HH2.out (by have := HL.out; omega) (by have := HNN.out; omega) (.inr (by have := HNN.out; omega))
        have HH3 : Hid (¬ p + 8 * u ≤ d.length) := h3
        clear h3
        go_wp2_with fail
        refine Calls.mono QW.out ?_
        rintro e w2 ⟨rfl, hb2⟩
        rw [if_neg (show ¬ ((n : Nat) : Int) < 0 by omega)]
        have k2' : Ch (fun q => q = B) w w2 := k1'.trans (below_ch hb2) (fun _ _ h => h)
        clear hb2 QW
        go_wp2
        go_ret3
        exact ⟨k2', .inl ⟨fun h => HH3.out (by rw [HU.out]; exact h.2.2), rfl⟩⟩
  · have QW : Hid _ := curWindow_bad B a d.length p 2 w HC.out HP.out (by have := HL.out; omega) (by omega) (.inr (by omega))
    have HH2 : Hid (¬ p + 2 ≤ d.length) := h2
    clear h2
    go_wp2_with fail
    refine Calls.mono QW.out ?_
    rintro e w1 ⟨rfl, hb1⟩
    rw [if_neg (show ¬ (2 : Int) < 0 by omega)]
    have k1 : Ch (fun q => q = B) w w1 := below_ch hb1
    clear hb1 QW
    go_wp2
    go_ret3
    exact ⟨k1, .inl ⟨fun h => HH2.out h.1, rfl⟩⟩
end Go.Proofs.YtijipfciimcnpaaDoor
