/-
  takeTarget: the address that a message is about.
-/
import Derived.Test.YtijipfciimcnpaaDoorI8One
import Derived.Test.YtijipfciimcnpaaDoorI8Tgt
namespace Go.Proofs.YtijipfciimcnpaaDoor
open Go.RowKit

theorem Spe8.lo {w w' : World} {B : Nat} (h : Spe8 w) (hg : 3 < B) (hb : Below B w w') : Spe8 w' := fun j v hv => (hb.cell (p := ⟨3, 0 + j, none⟩) hg).trans (h j v hv)
theorem ch_below {B : Nat} {w w' : World} (h : Ch (fun q => q = B) w w') (hB : B < w.heap.size) : Below B w w' := h.below (fun q e => by have e' : q = B := e; omega) (Nat.le_of_lt hB)
def tgX (d : List Nat) : Nat → Nat := fun i => d.getD i 0
theorem tgX_lt (d : List Nat) (h : ∀ x ∈ d, x < 256) (i : Nat) : tgX d i < 256 := by
  unfold tgX
  by_cases hi : i < d.length
  · simp only [List.getD, List.getElem?_eq_getElem hi, Option.getD_some]; exact h _ (List.getElem_mem hi)
  · rw [List.getD, List.getElem?_eq_none (Nat.le_of_not_lt hi)]; show 0 < 256; omega
def tgE (d : List Nat) : Int := if d.length < 16 then 84 else if tmB 6 (tgX d) then 0 else 86
def tgV (d : List Nat) : Int := if tgE d = 0 then 6 else 0
def tgY (d : List Nat) : Nat → Nat := if tgE d = 0 then tgX d else fun _ => 0
theorem ip_splice (V : Int) (f : Nat → Nat) : ∀ l : List Nat, l.length = 16 → splice (ipCells V f).toList 1 ((toI l).map (Value.int .u8)) = (ipCells V (tgX l)).toList
  | [_, _, _, _, _, _, _, _, _, _, _, _, _, _, _, _], _ => rfl
theorem ip_tgX (V : Int) (d : List Nat) : ipCells V (tgX (d.take 16)) = ipCells V (tgX d) := by
  rw [ipCells_eq, ipCells_eq]
  congr 2
  apply List.map_congr_left
  intro i hi
  have : i < 16 := List.mem_range.1 hi
  simp [tgX, List.getD, this]
set_option maxHeartbeats 1600000 in
set_option maxRecDepth 100000 in
theorem takeTarget_any (B : Nat) (a : Option Addr) (d : List Nat) (w : World) (hC : Cur w B a d.length 0) (hin : In B a (toI d).length) (hseg : Seg .u8 w a (toI d)) (h256 : ∀ x ∈ d, x < 256) (hl : d.length ≤ 65535) (hs : Spe8 w) (hg : 3 < B) :
    Calls Tryd.prog 44 #[.pointer (some ⟨B, 0, none⟩)] w fun e w' => e = .returned (.tuple #[.agg (ipCells (tgV d) (tgY d)), .int .i64 (tgE d)]) ∧ Ch (fun q => q = B) w w' ∧ (tgE d = 0 → Cur w' B a d.length 16) := by
  have hb0 : Below w.heap.size w (w.alloc (.cells (ipCells 0 (fun _ => 0)) 24)) := (Below.refl _ _).alloc (Nat.le_refl _) _
  have HC0 : Hid (Cur (w.alloc (.cells (ipCells 0 (fun _ => 0)) 24)) B a d.length 0) := hC.below hb0
  have HR0 : Hid (IpRow (w.alloc (.cells (ipCells 0 (fun _ => 0)) 24)) w.heap.size (ipCells 0 (fun _ => 0))) := heap_alloc_new _ _
  have HS0 : Hid (Spe8 (w.alloc (.cells (ipCells 0 (fun _ => 0)) 24))) := hs.old hb0
  have HG0 : Hid (Seg .u8 (w.alloc (.cells (ipCells 0 (fun _ => 0)) 24)) a (toI d)) := hseg.old hb0
  obtain ⟨W, hW⟩ : ∃ W, W = w.alloc (.cells (ipCells 0 (fun _ => 0)) 24) := ⟨_, rfl⟩
  obtain ⟨R, hR⟩ : ∃ R, R = w.heap.size := ⟨_, rfl⟩
  have HRW : Hid (W.heap.size = R + 1) := by rw [hW, hR]; simp [Hid]
  rw [← hW, ← hR] at HR0
  rw [← hW] at HC0 HS0 HG0
  have c0 : Ch (fun q => q = B) w W := by rw [hW]; exact below_ch hb0
  have HWW : Hid (w.alloc (.cells (ipCells 0 (fun _ => 0)) 24) = W) := hW.symm
  have HR : Hid (w.heap.size = R) := hR.symm
  have HBR : Hid (B < R) := by rw [hR]; exact hC.lt
  have HIN : Hid (In B a (toI d).length) := hin
  have H256 : Hid (∀ x ∈ d, x < 256) := h256
  have HL : Hid (d.length ≤ 65535) := hl
  have HG : Hid (3 < B) := hg
  clear hC hin hseg h256 hl hs hg hW hR hb0
  go_enter Tryd.func44, Tryd.ntmps44
  go_upto_region 1 with (first | (refine wpList_alloc_ip rfl rfl ?_; rw [HWW.out, HR.out]))
  by_cases hlen : d.length < 16
  · have HE : Hid (tgE d = 84) := by unfold tgE; rw [if_pos hlen]; rfl
    have QW : Hid _ := curWindow_bad B a d.length 0 16 W HC0.out (by omega) (by have := HL.out; omega) (by omega) (.inr (by omega))
    clear hlen
    go_wp2_with fail
    refine Calls.mono QW.out ?_
    rintro e w1 ⟨rfl, hb1⟩
    have HR1 : Hid (IpRow w1 R (ipCells 0 (fun _ => 0))) := HR0.out.below hb1
    have c1 : Ch (fun q => q = B) w w1 := c0.trans (below_ch hb1) (fun _ _ h => h)
    rw [if_neg (show ¬ (16 : Int) < 0 by omega)]
    clear hb1 QW c0
    go_wp2_with (first | (refine wpList_ip0_built rfl rfl ?_) | (refine wpList_store_ip (.tmp 2) (.tmp 14) rfl rfl R 0 0 (fun _ => 0) (fun _ => 0) rfl rfl HR1.out rfl ?_))
    intro w2 hR2 k2
    have HR2 : Hid (IpRow w2 R (ipCells 0 (fun _ => 0))) := hR2
    have HC2 : Hid (Ch (fun q => q = B) w w2) := c1.trans k2 (fun x hx e => by have e' : x = R := e; have := HR.out; omega)
    clear hR2 k2
    go_wp2
    (try simp only [Exit.inBlock, Exit.then])
    refine bodyPost_ret (results_ip_tmp rfl _ _ R 0 (fun _ => 0) rfl HR2.out) rfl ?_
    exact ⟨by unfold tgV tgY; rw [HE.out, if_neg (by omega), if_neg (by omega)]; rfl, HC2.out, fun h => absurd (HE.out.symm.trans h) (by omega)⟩
  · have h16 : 0 + 16 ≤ d.length := by omega
    have QW : Hid _ := curWindow_ok B a d.length 0 16 W HC0.out h16 (by have := HL.out; omega)
    have HLEN : Hid (¬ d.length < 16) := hlen
    clear hlen
    go_wp2_with fail
    refine Calls.mono QW.out ?_
    rintro e w1 ⟨rfl, hc1, hg1⟩
    have k1 := grown_ch hg1
    have HC1 : Hid (Cur w1 B a d.length 16) := hc1
    have HR1 : Hid (IpRow w1 R (ipCells 0 (fun _ => 0))) := HR0.out.ch k1 (fun e => by have e' : R = B := e; have := HBR.out; omega)
    have b1 := ch_below k1 HC0.out.lt
    have HS1 : Hid (Spe8 w1) := HS0.out.lo HG.out b1
    have HG1 : Hid (Seg .u8 w1 a (toI d)) := HG0.out.below HIN.out b1
    have c1 : Ch (fun q => q = B) w w1 := c0.trans k1 (fun _ _ h => h)
    have hw1 : R < w1.heap.size := HR1.out.lt
    have HW1 : Hid (R < w1.heap.size) := hw1
    obtain ⟨O, hO⟩ : ∃ O, O = w1.heap.size := ⟨_, rfl⟩
    have HO : Hid (w1.heap.size = O) := hO.symm
    have HRO : Hid (R < O) := by rw [hO]; exact hw1
    clear hc1 hg1 k1 b1 QW c0 hw1 hO
    obtain ⟨wN, hwN⟩ : ∃ wN, wN = w1.alloc (.cells (ipCells 0 (fun _ => 0)) 24) := ⟨_, rfl⟩
    have hbN : Below w1.heap.size w1 wN := by rw [hwN]; exact (Below.refl _ _).alloc (Nat.le_refl _) _
    have HNO : Hid (IpRow wN O (ipCells 0 (fun _ => 0))) := by rw [hwN, ← HO.out]; exact heap_alloc_new _ _
    have HWN : Hid (w1.alloc (.cells (ipCells 0 (fun _ => 0)) 24) = wN) := hwN.symm
    have HRN : Hid (IpRow wN R (ipCells 0 (fun _ => 0))) := HR1.out.below hbN
    have HCN : Hid (Cur wN B a d.length 16) := HC1.out.below hbN
    have HSN : Hid (Spe8 wN) := HS1.out.old hbN
    have HGN : Hid (Seg .u8 wN a (toI d)) := HG1.out.old hbN
    have cN : Ch (fun q => q = B) w wN := c1.trans (below_ch hbN) (fun _ _ h => h)
    clear hwN hbN HR1 HC1 HS1 HG1 c1 HW1 HC0 HR0 HS0 HG0 HRW
    go_upto_region 5 with (first | (refine wpList_ip6_built rfl rfl ?_) | (refine wpList_alloc_ip rfl rfl ?_; rw [HWN.out, HO.out]) | (refine wpList_store_ip (.tmp 6) (.tmp 15) rfl rfl O 0 6 (fun _ => 0) (fun _ => 0) rfl rfl HNO.out rfl ?_))
    intro w2 hR2 k2
    have hneB : ∀ x, x = O → x ≠ B := fun x e => by have := HRO.out; have := HBR.out; omega
    have HR2 : Hid (IpRow w2 O (ipCells 6 (fun _ => 0))) := hR2
    have HRR2 : Hid (IpRow w2 R (ipCells 0 (fun _ => 0))) := HRN.out.ch k2 (fun e => by have e' : R = O := e; have := HRO.out; omega)
    have HC2 : Hid (Cur w2 B a d.length 16) := HCN.out.ch k2 (fun e => hneB B e rfl)
    have b2 := ch_below k2 HNO.out.lt
    have HS2 : Hid (Spe8 w2) := HSN.out.lo (by have := HG.out; have := HRO.out; have := HBR.out; omega) b2
    have HG2 : Hid (Seg .u8 w2 a (toI d)) := HGN.out.below (HIN.out.mono (by have := HRO.out; have := HBR.out; omega)) b2
    have c2 : Ch (fun q => q = B) w w2 := cN.trans k2 (fun x hx e => by have e' : x = O := e; have := HR.out; have := HRO.out; omega)
    have hsg : Seg .u8 w2 (cutA a 0 16) (toI (d.take 16)) := by
      have := HG2.out.cut 0 16 (by rw [toI_len]; omega)
      simpa [toI] using this
    have ht : (d.take 16).length = 16 := by rw [List.length_take]; omega
    have HSG : Hid (Seg .u8 w2 (cutA a 0 16) (toI (d.take 16))) := hsg
    have HT : Hid ((d.take 16).length = 16) := ht
    clear hR2 k2 HNO HRN HCN b2 HSN HGN cN hsg ht
    go_wp2_with (first | (refine wpList_copy_ch rfl (.tmp 17) (.tmp 18) 29 29 rfl 5 Tryd.underlying29 Tryd.sizeByte (some ⟨O, 1, none⟩) (cutA a 0 16) 16 16 16 16 rfl rfl O 1 (ipCells 6 (fun _ => 0)).toList 24 HR2.out ((toI (d.take 16)).map (Value.int .u8)) (by rw [List.length_map, toI_len, HT.out]; rfl) (fun h => ⟨rfl, seg_cells HSG.out h⟩) (by rw [List.length_map, toI_len, HT.out]; decide) (by intro v hv; obtain ⟨z, _, rfl⟩ := List.mem_map.1 hv; rfl) ?_))
    intro w3 HH3 k3
    have hR3 : IpRow w3 O (ipCells 6 (tgX d)) := by
      have h := HH3.out
      rw [ip_splice 6 _ (d.take 16) HT.out, ip_tgX] at h
      exact h
    have HB3 : Hid (Boxed w3 O 6 (tgX d)) := ipRow_boxed hR3
    have HR3 : Hid (IpRow w3 O (ipCells 6 (tgX d))) := hR3
    have HRR3 : Hid (IpRow w3 R (ipCells 0 (fun _ => 0))) := HRR2.out.ch k3 (fun e => by have e' : R = O := e; have := HRO.out; omega)
    have HC3 : Hid (Cur w3 B a d.length 16) := HC2.out.ch k3 (fun e => hneB B e rfl)
    have b3 := ch_below k3 HR2.out.lt
    have HS3 : Hid (Spe8 w3) := HS2.out.lo (by have := HG.out; have := HRO.out; have := HBR.out; omega) b3
    have c3 : Ch (fun q => q = B) w w3 := c2.trans k3 (fun x hx e => by have e' : x = O := e; have := HR.out; have := HRO.out; omega)
    have QT : Hid _ := target_any 6 (tgX d) w3 (fun i _ => tgX_lt d H256.out i) HS3.out
    clear HH3 k3 hR3 HR2 HRR2 HC2 HS2 HG2 c2 HSG b3 HS3
    go_wp2_with (first | (refine wpList_load_ip (.tmp 6) rfl O 6 (tgX d) rfl HB3.out rfl ?_))
    refine Calls.mono QT.out ?_
    rintro e w4 ⟨rfl, hb4⟩
    have HB4 : Hid (Boxed w4 O 6 (tgX d)) := HB3.out.old hb4
    have HRR4 : Hid (IpRow w4 R (ipCells 0 (fun _ => 0))) := HRR3.out.below hb4
    have HC4 : Hid (Cur w4 B a d.length 16) := HC3.out.below hb4
    have c4 : Ch (fun q => q = B) w w4 := c3.trans (below_ch hb4) (fun _ _ h => h)
    clear hb4 HB3 HRR3 HC3 c3 QT HR3
    cases htm : tmB 6 (tgX d)
    · have HE : Hid (tgE d = 86) := by unfold tgE; rw [if_neg HLEN.out, htm]; rfl
      clear htm
      go_wp2_with (first | (refine wpList_ip0_built rfl rfl ?_) | (refine wpList_store_ip (.tmp 2) (.tmp 23) rfl rfl R 0 0 (fun _ => 0) (fun _ => 0) rfl rfl HRR4.out rfl ?_))
      intro w5 hR5 k5
      have HR5 : Hid (IpRow w5 R (ipCells 0 (fun _ => 0))) := hR5
      have HCH : Hid (Ch (fun q => q = B) w w5) := c4.trans k5 (fun x hx e => by have e' : x = R := e; have := HR.out; omega)
      clear hR5 k5
      go_wp2
      (try simp only [Exit.inBlock, Exit.then])
      refine bodyPost_ret (results_ip_tmp rfl _ _ R 0 (fun _ => 0) rfl HR5.out) rfl ?_
      exact ⟨by unfold tgV tgY; rw [HE.out, if_neg (by omega), if_neg (by omega)]; rfl, HCH.out, fun h => absurd (HE.out.symm.trans h) (by omega)⟩
    · have HE : Hid (tgE d = 0) := by unfold tgE; rw [if_neg HLEN.out, htm]; rfl
      clear htm
      go_wp2_with (first | (refine wpList_load_ip (.tmp 6) rfl O 6 (tgX d) rfl HB4.out rfl ?_) | (refine wpList_store_ip (.tmp 2) (.tmp 24) rfl rfl R 0 6 (fun _ => 0) (tgX d) rfl rfl HRR4.out rfl ?_))
      intro w5 hR5 k5
      have HR5 : Hid (IpRow w5 R (ipCells 6 (tgX d))) := hR5
      have HCH : Hid (Ch (fun q => q = B) w w5) := c4.trans k5 (fun x hx e => by have e' : x = R := e; have := HR.out; omega)
      have HCU : Hid (Cur w5 B a d.length 16) := HC4.out.ch k5 (fun e => by have e' : B = R := e; have := HBR.out; omega)
      clear hR5 k5
      go_wp2
      (try simp only [Exit.inBlock, Exit.then])
      refine bodyPost_ret (results_ip_tmp rfl _ _ R 6 (tgX d) rfl HR5.out) rfl ?_
      exact ⟨by unfold tgV tgY; rw [HE.out, if_pos rfl, if_pos rfl]; rfl, HCH.out, fun _ => HCU.out⟩
end Go.Proofs.YtijipfciimcnpaaDoor
