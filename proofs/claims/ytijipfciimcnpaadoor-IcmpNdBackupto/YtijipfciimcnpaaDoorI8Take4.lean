/-
  takeLink's walk.
-/
import Derived.Test.YtijipfciimcnpaaDoorI8Take3
namespace Go.Proofs.YtijipfciimcnpaaDoor
open Go.RowKit

set_option maxHeartbeats 3200000 in
set_option maxRecDepth 100000 in
theorem takeLink_any (B : Nat) (a : Option Addr) (d : List Nat) (l : Int) (p0 : Nat) (w : World) (hC : Cur w B a d.length p0) (hp : p0 ≤ d.length) (hin : In B a (toI d).length) (hseg : Seg .u8 w a (toI d)) (h256 : ∀ x ∈ d, x < 256) (hl : d.length ≤ 65535) :
    Calls Tryd.prog 45 #[.pointer (some ⟨B, 0, none⟩), .int .i64 l] w fun e w' => e = .returned (.tuple #[.agg (macC (lk d l d.length p0 false (fun _ => 0)).1), .bool (lk d l d.length p0 false (fun _ => 0)).2.1, .int .i64 (lk d l d.length p0 false (fun _ => 0)).2.2]) ∧ Ch (fun q => q = B) w w' := by
  have hb1 : Below w.heap.size w (w.alloc (.cells (macC (fun _ => 0)) 26)) := (Below.refl _ _).alloc (Nat.le_refl _) _
  have hr1 := mcAt_new w (fun _ => 0)
  have hb2 : Below (w.alloc (.cells (macC (fun _ => 0)) 26)).heap.size (w.alloc (.cells (macC (fun _ => 0)) 26)) ((w.alloc (.cells (macC (fun _ => 0)) 26)).alloc (.cells (macC (fun _ => 0)) 26)) := (Below.refl _ _).alloc (Nat.le_refl _) _
  have hr2 := mcAt_new (w.alloc (.cells (macC (fun _ => 0)) 26)) (fun _ => 0)
  rw [World.size_alloc] at hr2
  have hr1' := hr1.below hb2
  have bb := bthen hb1 hb2
  obtain ⟨W1, hW1⟩ : ∃ W1, W1 = w.alloc (.cells (macC (fun _ => 0)) 26) := ⟨_, rfl⟩
  rw [← hW1] at hr2 bb hr1'
  obtain ⟨W, hW⟩ : ∃ W, W = W1.alloc (.cells (macC (fun _ => 0)) 26) := ⟨_, rfl⟩
  rw [← hW] at hr2 bb hr1'
  obtain ⟨R, hR⟩ : ∃ R, R = w.heap.size := ⟨_, rfl⟩
  rw [← hR] at hr2 hr1'
  have HR : Hid (w.heap.size = R) := hR.symm
  have HR2 : Hid (W1.heap.size = R + 1) := by rw [hW1, hR]; exact World.size_alloc _ _
  have HW1 : Hid (w.alloc (.cells (macC (fun _ => 0)) 26) = W1) := hW1.symm
  have HW : Hid (W1.alloc (.cells (macC (fun _ => 0)) 26) = W) := hW.symm
  have HC0 : Hid (Cur W B a d.length p0) := hC.below bb
  have HMR : Hid (McAt W R (fun _ => 0)) := hr1'
  have HMM : Hid (McAt W (R + 1) (fun _ => 0)) := hr2
  have HG0 : Hid (Seg .u8 W a (toI d)) := hseg.old bb
  have c0 : Ch (fun q => q = B) w W := below_ch bb
  have HBR : Hid (B < R) := by rw [hR]; exact hC.lt
  have HP : Hid (p0 ≤ d.length) := hp
  have HIN : Hid (In B a (toI d).length) := hin
  have H256 : Hid (∀ x ∈ d, x < 256) := h256
  have HL : Hid (d.length ≤ 65535) := hl
  clear hC hp hin hseg h256 hl hb1 hb2 hr1 hr2 hr1' bb hW1 hW hR
  obtain ⟨F0, hF0⟩ : ∃ F0, F0 = lk d l d.length p0 false (fun _ => 0) := ⟨_, rfl⟩
  rw [← hF0]
  have HF0 : Hid (F0 = lk d l d.length p0 false (fun _ => 0)) := hF0
  clear hF0
  go_enter Tryd.func45, Tryd.ntmps45
  go_upto_region 1 with (first | (refine wpList_alloc_mac rfl rfl ?_; rw [HW1.out, HR.out]))
  go_wp2_with (first | (refine wpList_mac0_built rfl rfl ?_) | (refine wpList_alloc_mac rfl rfl ?_; rw [HW.out, HR2.out]) | (refine wpList_store_mc (.tmp 7) (.tmp 12) rfl rfl (R + 1) (fun _ => 0) (fun _ => 0) rfl rfl HMM.out rfl ?_))
  intro W2 hM2 k2
  have b2 := ch_below k2 HMM.out.lt
  have HMR2 : Hid (McAt W2 R (fun _ => 0)) := HMR.out.ch k2 (fun e => by have e' : R = R + 1 := e; omega)
  have HMM2 : Hid (McAt W2 (R + 1) (fun _ => 0)) := hM2
  have HC2 : Hid (Cur W2 B a d.length p0) := HC0.out.ch k2 (fun e => by have e' : B = R + 1 := e; have := HBR.out; omega)
  have HG2 : Hid (Seg .u8 W2 a (toI d)) := HG0.out.below (HIN.out.mono (by have := HBR.out; omega)) b2
  have c2 : Ch (fun q => q = B) w W2 := c0.trans k2 (fun x hx e => by have e' : x = R + 1 := e; have := HR.out; omega)
  clear hM2 k2 b2 HMR HMM HC0 HG0 c0
  go_wp2
  go_loopw [8] (fun hv wr => ∃ (h : Bool) (p f : Nat) (m : Nat → Nat), hv = .bool h ∧ p ≤ d.length ∧ d.length - p ≤ f ∧ Hid (F0 = lk d l f p h m) ∧ Cur wr B a d.length p ∧ McAt wr R (fun _ => 0) ∧ McAt wr (R + 1) m ∧ Seg .u8 wr a (toI d) ∧ Ch (fun q => q = B) w wr) (fun _ wr => d.length - curP wr B)
  case atStart => exact ⟨false, p0, d.length, _, rfl, HP.out, Nat.sub_le _ _, HF0, HC2.out, HMR2.out, HMM2.out, HG2.out, c2⟩
  case round =>
    obtain ⟨h, p, f, m, rfl, hp, hf, HLK, hcur, hmr, hmm, hsg, hch⟩ := hrel
    have HCr : Hid (Cur wr B a d.length p) := hcur
    have HMRr : Hid (McAt wr R (fun _ => 0)) := hmr
    have HMMr : Hid (McAt wr (R + 1) m) := hmm
    have HGr : Hid (Seg .u8 wr a (toI d)) := hsg
    have HFr : Hid (d.length - p ≤ f) := hf
    have HPr : Hid (p ≤ d.length) := hp
    have QL : Hid _ := curLeft_any B a d.length p wr hcur (by have := HL.out; omega) hp
    have HME : Hid (curP wr B = p) := hcur.p
    clear hcur hmr hmm hsg hf hp HMR2 HMM2 HC2 HG2 c2
    go_wp2_with fail
    refine Calls.mono QL.out ?_
    rintro e w1 ⟨rfl, hb1⟩
    have HC1 : Hid (Cur w1 B a d.length p) := HCr.out.below hb1
    have HMR1 : Hid (McAt w1 R (fun _ => 0)) := HMRr.out.below hb1
    have HMM1 : Hid (McAt w1 (R + 1) m) := HMMr.out.below hb1
    have HG1 : Hid (Seg .u8 w1 a (toI d)) := HGr.out.old hb1
    have c1 : Ch (fun q => q = B) w w1 := hch.trans (below_ch hb1) (fun _ _ h => h)
    clear hb1 QL HCr HMRr HMMr HGr hch
    by_cases hlt : p < d.length
    · have hgt : (0 : Int) < (d.length : Int) - (p : Int) := by omega
      have HLT : Hid (p < d.length) := hlt
      have QO : Hid _ := takeOpt_any B a d p w1 HC1.out HPr.out HIN.out HG1.out H256.out HL.out
      clear hlt
      go_wp2_with fail
      refine Calls.mono QO.out ?_
      rintro e w2 ⟨k2, hres⟩
      have b2 := ch_below k2 HC1.out.lt
      have HMRx : Hid (McAt w2 R (fun _ => 0)) := HMR1.out.ch k2 (fun e => by have e' : R = B := e; have := HBR.out; omega)
      have HMM2 : Hid (McAt w2 (R + 1) m) := HMM1.out.ch k2 (fun e => by have e' : R + 1 = B := e; have := HBR.out; omega)
      have HG2 : Hid (Seg .u8 w2 a (toI d)) := HG1.out.below HIN.out b2
      have cx : Ch (fun q => q = B) w w2 := c1.trans k2 (fun _ _ h => h)
      clear k2 b2 QO HC1 HMR1 HMM1 HG1 c1
      rcases hres with ⟨hno, rfl⟩ | ⟨hok, rfl, hc2⟩
      · have HE : Hid (F0 = (fun _ => 0, false, 85)) := HLK.out.trans (lk_bad d l f p h m HLT.out HFr.out hno)
        clear hno
        go_wp2_with (first | (refine wpList_mac0_built rfl rfl ?_) | (refine wpList_store_mc (.tmp 4) (.tmp 24) rfl rfl R (fun _ => 0) (fun _ => 0) rfl rfl HMRx.out rfl ?_))
        intro w5 hR5 k5
        have HR5 : Hid (McAt w5 R (fun _ => 0)) := hR5
        have HCH : Hid (Ch (fun q => q = B) w w5) := cx.trans k5 (fun x hx e => by have e' : x = R := e; have := HR.out; omega)
        clear hR5 k5
        go_wp2
        (try simp only [Exit.inBlock, Exit.then])
        refine bodyPost_ret (results_mac_tt rfl _ _ R (fun _ => 0) rfl HR5.out) rfl ?_
        exact ⟨by rw [HE.out]; rfl, HCH.out⟩
      · have HC2 : Hid (Cur w2 B a d.length (p + 8 * opU d p)) := hc2
        have HOK : Hid (OpOk8 d p) := hok
        obtain ⟨kv, hkv⟩ : ∃ kv : Int, kv = ((d.getD p 0 : Nat) : Int) := ⟨_, rfl⟩
        rw [← hkv]
        have HKV : Hid (kv = ((d.getD p 0 : Nat) : Int)) := hkv
        have HPP : Hid (p + 8 * opU d p ≤ d.length ∧ p < p + 8 * opU d p) := ⟨hok.2.2, by have := hok.2.1; omega⟩
        clear hc2 hok hkv
        by_cases hkl : kv = l
        · subst hkl
          by_cases hu1 : opU d p = 1
          · have HU : Hid (opU d p = 1) := hu1
            have e6 : 8 * opU d p - 2 = 6 := by omega
            rw [e6]
            clear hu1 e6
            cases h
            · obtain ⟨g, hg1, hg2⟩ := lk_new d kv f p m HLT.out HFr.out HOK.out HKV.out.symm HU.out
              have HX : Hid (d.length - (p + 8 * opU d p) ≤ g ∧ F0 = lk d kv g (p + 8 * opU d p) true (mcX d p)) := ⟨hg1, HLK.out.trans hg2⟩
              have hsg : Seg .u8 w2 (cutA a (p + 2) 6) (toI ((d.drop (p + 2)).take 6)) := by
                have := HG2.out.cut (p + 2) 6 (by rw [toI_len]; have := HPP.out.1; have := HU.out; omega)
                simpa [toI] using this
              have ht : ((d.drop (p + 2)).take 6).length = 6 := by rw [List.length_take, List.length_drop]; have := HPP.out.1; have := HU.out; omega
              have HSG : Hid (Seg .u8 w2 (cutA a (p + 2) 6) (toI ((d.drop (p + 2)).take 6))) := hsg
              have HT : Hid (((d.drop (p + 2)).take 6).length = 6) := ht
              clear hg1 hg2 hsg ht
              go_wp2_with (first | (refine wpList_copy_ch rfl (.tmp 35) (.tmp 36) 29 29 rfl 5 Tryd.underlying29 Tryd.sizeByte (some ⟨R + 1, 0, none⟩) (cutA a (p + 2) 6) 6 6 6 6 rfl rfl (R + 1) 0 (macC m).toList 26 HMM2.out ((toI ((d.drop (p + 2)).take 6)).map (Value.int .u8)) (by rw [List.length_map, toI_len, HT.out]; rfl) (fun h => ⟨rfl, seg_cells HSG.out h⟩) (by rw [List.length_map, toI_len, HT.out]; exact Nat.le_refl 6) (by intro v hv; obtain ⟨z, _, rfl⟩ := List.mem_map.1 hv; rfl) ?_))
              intro w3 HH3 k3
              have HM3 : Hid (McAt w3 (R + 1) (mcX d p)) := by
                have h := HH3.out
                rw [mac_splice _ _ HT.out] at h
                exact h
              have b3 := ch_below k3 HMM2.out.lt
              have HMR3 : Hid (McAt w3 R (fun _ => 0)) := HMRx.out.ch k3 (fun e => by have e' : R = R + 1 := e; omega)
              have HC3 : Hid (Cur w3 B a d.length (p + 8 * opU d p)) := HC2.out.ch k3 (fun e => by have e' : B = R + 1 := e; have := HBR.out; omega)
              have HG3 : Hid (Seg .u8 w3 a (toI d)) := HG2.out.below (HIN.out.mono (by have := HBR.out; omega)) b3
              have c3 : Ch (fun q => q = B) w w3 := cx.trans k3 (fun x hx e => by have e' : x = R + 1 := e; have := HR.out; omega)
              have HMN : Hid (curP w3 B = p + 8 * opU d p) := HC3.out.p
              clear HH3 k3 b3
              go_wp2
              go_roundw
              case rel => exact ⟨true, _, _, _, rfl, HPP.out.1, HX.out.1, HX.out.2, HC3.out, HMR3.out, HM3.out, HG3.out, c3⟩
              case measure => rw [HME.out, HMN.out]; have := HPP.out; omega
            · obtain ⟨g, hg1, hg2⟩ := lk_has d kv f p m HLT.out HFr.out HOK.out HKV.out.symm HU.out
              have HX : Hid (d.length - (p + 8 * opU d p) ≤ g ∧ F0 = lk d kv g (p + 8 * opU d p) true m) := ⟨hg1, HLK.out.trans hg2⟩
              have HMN : Hid (curP w2 B = p + 8 * opU d p) := HC2.out.p
              clear hg1 hg2
              go_wp2
              go_roundw
              case rel => exact ⟨true, _, _, _, rfl, HPP.out.1, HX.out.1, HX.out.2, HC2.out, HMRx.out, HMM2.out, HG2.out, cx⟩
              case measure => rw [HME.out, HMN.out]; have := HPP.out; omega
          · have HE : Hid (F0 = (fun _ => 0, false, 85)) := HLK.out.trans (lk_len d kv f p h m HLT.out HFr.out HOK.out HKV.out.symm hu1)
            obtain ⟨n, hn⟩ : ∃ n : Nat, n = 8 * opU d p - 2 := ⟨_, rfl⟩
            rw [← hn]
            have en : ((n : Int) == 6) = false := beq_eq_false_iff_ne.2 (by have := HOK.out.2.1; omega)
            clear hn hu1
            go_wp2_with (first | (refine wpList_mac0_built rfl rfl ?_) | (refine wpList_store_mc (.tmp 4) (.tmp 32) rfl rfl R (fun _ => 0) (fun _ => 0) rfl rfl HMRx.out rfl ?_))
            intro w5 hR5 k5
            have HR5 : Hid (McAt w5 R (fun _ => 0)) := hR5
            have HCH : Hid (Ch (fun q => q = B) w w5) := cx.trans k5 (fun x hx e => by have e' : x = R := e; have := HR.out; omega)
            clear hR5 k5
            go_wp2
            (try simp only [Exit.inBlock, Exit.then])
            refine bodyPost_ret (results_mac_tt rfl _ _ R (fun _ => 0) rfl HR5.out) rfl ?_
            exact ⟨by rw [HE.out]; rfl, HCH.out⟩
        · have ek : (kv == l) = false := beq_eq_false_iff_ne.2 hkl
          obtain ⟨g, hg1, hg2⟩ := lk_other d l f p h m HLT.out HFr.out HOK.out (by rw [← HKV.out]; exact hkl)
          have HX : Hid (d.length - (p + 8 * opU d p) ≤ g ∧ F0 = lk d l g (p + 8 * opU d p) h m) := ⟨hg1, HLK.out.trans hg2⟩
          have HMN : Hid (curP w2 B = p + 8 * opU d p) := HC2.out.p
          clear hg1 hg2 hkl
          go_wp2
          go_roundw
          case rel => exact ⟨h, _, _, _, rfl, HPP.out.1, HX.out.1, HX.out.2, HC2.out, HMRx.out, HMM2.out, HG2.out, cx⟩
          case measure => rw [HME.out, HMN.out]; have := HPP.out; omega
    · have hgt : ¬ (0 : Int) < (d.length : Int) - (p : Int) := by omega
      have HE : Hid (F0 = (m, h, 0)) := HLK.out.trans (lk_end d l f p h m hlt)
      clear hlt
      go_wp2_with (first | (refine wpList_load_mc (.tmp 7) rfl (R + 1) m rfl HMM1.out rfl ?_) | (refine wpList_store_mc (.tmp 4) (.tmp 38) rfl rfl R (fun _ => 0) m rfl rfl HMR1.out rfl ?_))
      intro w5 hR5 k5
      have HR5 : Hid (McAt w5 R m) := hR5
      have HCH : Hid (Ch (fun q => q = B) w w5) := c1.trans k5 (fun x hx e => by have e' : x = R := e; have := HR.out; omega)
      clear hR5 k5
      go_wp2
      (try simp only [Exit.inBlock, Exit.then])
      refine bodyPost_ret (results_mac_tt rfl _ _ R m rfl HR5.out) rfl ?_
      exact ⟨by rw [HE.out]; rfl, HCH.out⟩
end Go.Proofs.YtijipfciimcnpaaDoor
