/-
  NeighStays: the walk.
-/
import Derived.Test.YtjfglcmnclhijaaNgOp
namespace Go.Proofs.Ytjfglcmnclhijaa
open Go.RowKit Go.Maps

theorem LSt.back {W1 w x : World} {t M : Nat} {c : CF} {E : List EV} (h : LSt W1 t M c E x) (b : Below w.heap.size w W1) : LSt w t M c E x := ⟨h.ca, h.cf, h.ok, bthen b h.bel, fun q hq => Nat.le_trans b.size (h.out q hq)⟩
set_option maxHeartbeats 12800000 in
set_option maxRecDepth 100000 in
theorem neighStays.walk (w : World) (c : CF) (a : Option Addr) (len cap : Nat) (ops : List OV) (hl : ops.length = len) (hs : ListG 27 ocL OpOk w a ops) (hn : len ≤ 1048576) : Calls Try.prog 4 #[.agg (cfC c), .slice a len cap] w fun e w' => e = .returned (.bool true) ∧ Below w.heap.size w w' := by
  have HS : Hid (ListG 27 ocL OpOk w a ops ∧ ops.length = len ∧ len ≤ 1048576) := ⟨hs, hl, hn⟩
  clear hs hl hn
  have hb := cfg_new w c
  have bel : Below w.heap.size w (w.alloc (.cells (cfC c) 23)) := (Below.refl _ _).alloc (Nat.le_refl _) _
  obtain ⟨CX, hC⟩ : ∃ C, C = cfC c := ⟨_, rfl⟩
  obtain ⟨W, hW⟩ : ∃ W, W = w.alloc (.cells (cfC c) 23) := ⟨_, rfl⟩
  rw [← hW] at hb bel
  obtain ⟨B, hB⟩ : ∃ B, B = w.heap.size := ⟨_, rfl⟩
  rw [← hB] at hb
  have HBX : Hid (CfgAt W B c) := hb
  rw [← hC] at hW ⊢
  have HOX : Hid (w.heap.size = B) := hB.symm
  have HLX : Hid (Below w.heap.size w W) := bel
  have HWX : Hid (w.alloc (.cells CX 23) = W) := hW.symm
  clear hb hW hB hC bel
  have QC : Hid _ := cache_any c W
  obtain ⟨d, hd⟩ : ∃ d, d = cfR c := ⟨_, rfl⟩
  rw [← hd] at QC
  clear hd
  go_enter Try.func4, Try.ntmps4
  go_upto_region 1 with fail
  rw [HOX.out, HWX.out]
  go_wp2_with (first | (refine wpList_load_cfg (.tmp 2) rfl B c rfl HBX.out rfl ?_))
  refine Calls.mono QC.out ?_
  rintro e w1 ⟨t, M, rfl, hL⟩
  have H1 : Hid (LSt w t M d [] w1) := hL.back HLX.out
  clear hL QC HBX HWX HLX
  go_wp2_with (first | (refine wpList_alloc_cfg rfl rfl ?_) | (refine wpList_store_cfg (.tmp 6) (.tmp 21) rfl rfl w1.heap.size cz d rfl rfl (cfg_new w1 cz) rfl ?_))
  intro w2 h2 k2
  have b2 : Below w1.heap.size w1 w2 := boxed_below k2 (fun q e => by have e' : q = w1.heap.size := e; omega)
  have H2 : Hid (LSt w t M d [] w2) := H1.out.below b2
  obtain ⟨O6, hO6⟩ : ∃ O, O = w1.heap.size := ⟨_, rfl⟩
  rw [← hO6]
  clear h2 k2 b2 hO6 H1
  go_wp2_with fail
  refine Calls.mono (first_any H2.out) ?_
  rintro r w3 ⟨rfl, e3, _, hL, _⟩
  have H3 : Hid (LSt w t M d [e3] w3) := hL
  clear hL H2
  go_wp2_with fail
  go_loopw [7] (fun ix wr => ∃ (i : Nat) (E : List EV), ix = .int .i64 i ∧ i ≤ len ∧ Hid (LSt w t M d E wr)) (fun ix _ => len - (intOf ix).toNat)
  case atStart => exact ⟨0, [e3], rfl, by omega, H3⟩
  case round =>
    obtain ⟨i, E, rfl, hi, ST⟩ := hrel
    clear H3
    by_cases hlt : i < len
    · have k0 : (0 : Int) ≤ (i : Int) := by omega
      have k1 : (i : Int) < (len : Int) := by omega
      have k2 : ((i : Int)).toNat = i := by omega
      have wi : IntKind.i64.wrap ((i : Int) + 1) = (i : Int) + 1 := by have := HS.out.2.2; rw [IntKind.wrap_i64]; omega
      obtain ⟨o, hok, g, off, rfl, hrg⟩ := op_at HS.out.1 ST.out.bel i (by rw [HS.out.2.1]; exact hlt)
      have HRG : Hid (wr.rangeAt g (off + i * 27) (opC o).toList) := hrg
      have HLT : Hid (i < len) := hlt
      have HOK : Hid (OpOk o) := hok
      clear hrg hi hlt hok
      go_wp2_with (first | (refine wpList_mid_opv (.tmp 37) rfl g (off + i * 27) o rfl HRG.out rfl ?_) | (refine wpList_alloc_opv rfl rfl ?_) | (refine wpList_store_opv (.tmp 8) (.tmp 38) rfl rfl wr.heap.size oz o rfl rfl (opv_new wr oz) rfl ?_))
      intro x1 h1 kk1
      have b1 : Below wr.heap.size wr x1 := boxed_below kk1 (fun q e => by have e' : q = wr.heap.size := e; omega)
      obtain ⟨O8, hO8⟩ : ∃ O, O = wr.heap.size := ⟨_, rfl⟩
      rw [← hO8] at h1 ⊢
      have S1 : Hid (LSt w t M d E x1 ∧ OpvAt x1 O8 o) := ⟨ST.out.below b1, h1⟩
      clear h1 kk1 b1 hO8 HRG ST
      go_wp2_with fail
      refine Calls.mono S1.out.1.all ?_
      rintro r x2 ⟨v, S, rfl, hS, hN, hL, b2⟩
      obtain ⟨wb, hwb⟩ : ∃ wb, wb = x1.heap.size := ⟨_, rfl⟩
      rw [← hwb] at hN
      have S2 : Hid (LSt w t M d E x2 ∧ OpvAt x2 O8 o ∧ NL x2 wb v (S.map (fun e => e.n.nb)) ∧ Srt E S) := ⟨hL, S1.out.2.below b2, hN, hS⟩
      clear hS hN hL b2 S1 hwb
      obtain ⟨nw, hnw⟩ : ∃ nw : Nat, nw = waitN E := ⟨_, rfl⟩
      have HNW : Hid (nw = waitN E) := hnw
      have QV : Hid _ := S2.out.1.waiting
      rw [← hnw] at QV
      clear hnw
      go_wp2_with fail
      refine Calls.mono QV.out ?_
      rintro r x3 ⟨rfl, hL, b3⟩
      have S3 : Hid (LSt w t M d E x3 ∧ OpvAt x3 O8 o ∧ NL x3 wb v (S.map (fun e => e.n.nb)) ∧ Srt E S) := ⟨hL, S2.out.2.1.below b3, S2.out.2.2.1.below b3, S2.out.2.2.2⟩
      clear hL b3 S2 QV
      obtain ⟨kd, hkd⟩ : ∃ kd, kd = o.kd := ⟨_, rfl⟩
      obtain ⟨pt, hpt⟩ : ∃ pt, pt = o.k.pt := ⟨_, rfl⟩
      obtain ⟨on, hon⟩ : ∃ on, on = o.n := ⟨_, rfl⟩
      have c0 : x3.cell? ⟨O8, 0, none⟩ = some (.int .i64 kd) := by rw [S3.out.2.1.cell 0, hkd]; rfl
      have c2 : x3.cell? ⟨O8, 2, none⟩ = some (.int .i64 pt) := by rw [S3.out.2.1.cell 2, hpt]; rfl
      have c26 : x3.cell? ⟨O8, 26, none⟩ = some (.int .i64 on) := by rw [S3.out.2.1.cell 26, hon]; rfl
      have HP : Hid (pt = o.k.pt ∧ on = o.n) := ⟨hpt, hon⟩
      clear hpt hon hkd
      by_cases h1 : kd = 1
      · have q1 : (kd == 1) = true := by simpa using h1
        have QW : Hid _ := S3.out.1.want o.k HOK.out.k on
        rw [← HP.out.1] at QW
        clear h1
        go_wp2_with (first | (refine wpList_mid_ipr (.tmp 51) rfl O8 3 o.k.V o.k.x rfl S3.out.2.1.ip rfl ?_))
        refine Calls.mono QW.out ?_
        rintro r x4 ⟨m, oc, er, E', rfl, _, hL, hch, _, hE⟩
        have S4 : Hid (LSt w t M d E' x4 ∧ NL x4 wb v (S.map (fun e => e.n.nb)) ∧ Srt E S ∧ (er ≠ 0 → E' = E)) := ⟨hL, S3.out.2.2.1.ch hch (S3.out.2.2.1.not S3.out.1.ca), S3.out.2.2.2, hE⟩
        clear hL hch hE QW S3 c0 c2 c26
        go_wp2_with (first | (refine wpList_alloc_mac rfl rfl ?_) | (refine wpList_store_mac (.tmp 12) (.tmp 56) rfl rfl x4.heap.size mz m rfl rfl (mac_new x4 mz) rfl ?_))
        intro x5 h5 kk5
        have b5 : Below x4.heap.size x4 x5 := boxed_below kk5 (fun q e => by have e' : q = x4.heap.size := e; omega)
        have S5 : Hid (LSt w t M d E' x5 ∧ NL x5 wb v (S.map (fun e => e.n.nb)) ∧ Srt E S ∧ (er ≠ 0 → E' = E)) := ⟨S4.out.1.below b5, S4.out.2.1.below b5, S4.out.2.2⟩
        obtain ⟨O12, hO12⟩ : ∃ O, O = x4.heap.size := ⟨_, rfl⟩
        rw [← hO12]
        clear h5 kk5 b5 hO12 S4
        go_wp2_with fail
        refine Calls.mono (num_any er x5) ?_
        rintro r x ⟨rfl, rfl⟩
        by_cases he : er = 0
        · have q2 : (er != 0) = false := by rw [he]; rfl
          have HD : Hid (LSt w t M d E' x5) := S5.out.1
          clear he S5
          go_wp2_with fail
          go_roundw
          case rel => exact ⟨i + 1, E', by first | rfl | go_num, by have := HLT.out; omega, HD⟩
          case measure => have := HLT.out; simp [intOf]; omega
        · have q2 : (er != 0) = true := by simpa using he
          have HF : Hid (LSt w t M d E x5 ∧ NL x5 wb v (S.map (fun e => e.n.nb)) ∧ Srt E S) := ⟨by have h := S5.out.1; rwa [S5.out.2.2.2 he] at h, S5.out.2.1, S5.out.2.2.1⟩
          clear he S5
          have hnw : ((nw : Int) != (nw : Int)) = false := by simp
          go_wp2_with fail
          refine Calls.mono HF.out.1.all ?_
          rintro r y1 ⟨v2, S2, rfl, hS2, hN2, hL2, b2⟩
          have HG : Hid (LSt w t M d E y1 ∧ NL y1 wb v (S.map (fun e => e.n.nb)) ∧ NL y1 x5.heap.size v2 (S.map (fun e => e.n.nb)) ∧ S.length ≤ 1024) := ⟨hL2, HF.out.2.1.below b2, by rw [HF.out.2.2.same hS2]; exact hN2, by rw [HF.out.2.2.1.length_eq]; exact HF.out.1.ok.len HF.out.1.cf⟩
          clear hS2 hN2 hL2 b2 HF
          go_wp2_with fail
          refine Calls.mono (sameAll_true v2 v (S.map (fun e => e.n.nb)) _ _ y1 HG.out.2.2.1 HG.out.2.1 (by rw [List.length_map]; have := HG.out.2.2.2; omega)) ?_
          rintro r y2 ⟨rfl, b2⟩
          have HG2 : Hid (LSt w t M d E y2) := HG.out.1.below b2
          clear HG b2
          go_wp2_with fail
          have QV : Hid _ := HG2.out.waiting
          rw [← HNW.out] at QV
          refine Calls.mono QV.out ?_
          rintro r y3 ⟨rfl, hL3, _⟩
          have HG3 : Hid (LSt w t M d E y3) := hL3
          clear hL3 HG2 QV
          go_wp2_with fail
          go_roundw
          case rel => exact ⟨i + 1, E, by first | rfl | go_num, by have := HLT.out; omega, HG3⟩
          case measure => have := HLT.out; simp [intOf]; omega
      · have q1 : (kd == 1) = false := by simpa using h1
        by_cases h2 : kd = 2
        · have q2 : (kd == 2) = true := by simpa using h2
          have QL : Hid _ := S3.out.1.learn o.k HOK.out.k o.m HOK.out.m on
          rw [← HP.out.1] at QL
          clear h1 h2
          go_wp2_with (first | (refine wpList_mid_ipr (.tmp 67) rfl O8 3 o.k.V o.k.x rfl S3.out.2.1.ip rfl ?_) | (refine wpList_mid_mac (.tmp 69) rfl O8 20 o.m rfl S3.out.2.1.mac rfl ?_))
          refine Calls.mono QL.out ?_
          rintro r x4 ⟨lv, l, er, E', rfl, _, hL, hch, _, _, hE⟩
          have S5 : Hid (LSt w t M d E' x4 ∧ NL x4 wb v (S.map (fun e => e.n.nb)) ∧ Srt E S ∧ (er ≠ 0 → E' = E)) := ⟨hL, S3.out.2.2.1.ch hch (S3.out.2.2.1.not S3.out.1.ca), S3.out.2.2.2, hE⟩
          clear hL hch hE QL S3 c0 c2 c26
          go_wp2_with fail
          refine Calls.mono (num_any er x4) ?_
          rintro r x ⟨rfl, rfl⟩
          by_cases he : er = 0
          · have q3 : (er != 0) = false := by rw [he]; rfl
            have HD : Hid (LSt w t M d E' x4) := S5.out.1
            clear he S5
            go_wp2_with fail
            go_roundw
            case rel => exact ⟨i + 1, E', by first | rfl | go_num, by have := HLT.out; omega, HD⟩
            case measure => have := HLT.out; simp [intOf]; omega
          · have q3 : (er != 0) = true := by simpa using he
            have HF : Hid (LSt w t M d E x4 ∧ NL x4 wb v (S.map (fun e => e.n.nb)) ∧ Srt E S) := ⟨by have h := S5.out.1; rwa [S5.out.2.2.2 he] at h, S5.out.2.1, S5.out.2.2.1⟩
            clear he S5
            have hnw : ((nw : Int) != (nw : Int)) = false := by simp
            go_wp2_with fail
            refine Calls.mono HF.out.1.all ?_
            rintro r y1 ⟨v2, S2, rfl, hS2, hN2, hL2, b2⟩
            have HG : Hid (LSt w t M d E y1 ∧ NL y1 wb v (S.map (fun e => e.n.nb)) ∧ NL y1 x4.heap.size v2 (S.map (fun e => e.n.nb)) ∧ S.length ≤ 1024) := ⟨hL2, HF.out.2.1.below b2, by rw [HF.out.2.2.same hS2]; exact hN2, by rw [HF.out.2.2.1.length_eq]; exact HF.out.1.ok.len HF.out.1.cf⟩
            clear hS2 hN2 hL2 b2 HF
            go_wp2_with fail
            refine Calls.mono (sameAll_true v2 v (S.map (fun e => e.n.nb)) _ _ y1 HG.out.2.2.1 HG.out.2.1 (by rw [List.length_map]; have := HG.out.2.2.2; omega)) ?_
            rintro r y2 ⟨rfl, b2⟩
            have HG2 : Hid (LSt w t M d E y2) := HG.out.1.below b2
            clear HG b2
            go_wp2_with fail
            have QV : Hid _ := HG2.out.waiting
            rw [← HNW.out] at QV
            refine Calls.mono QV.out ?_
            rintro r y3 ⟨rfl, hL3, _⟩
            have HG3 : Hid (LSt w t M d E y3) := hL3
            clear hL3 HG2 QV
            go_wp2_with fail
            go_roundw
            case rel => exact ⟨i + 1, E, by first | rfl | go_num, by have := HLT.out; omega, HG3⟩
            case measure => have := HLT.out; simp [intOf]; omega
        · have q2 : (kd == 2) = false := by simpa using h2
          by_cases h3 : kd = 3
          · have q3 : (kd == 3) = true := by simpa using h3
            have QT : Hid _ := S3.out.1.tick
            clear h1 h2 h3
            go_wp2_with fail
            refine Calls.mono QT.out ?_
            rintro r x4 ⟨av, lv, Kd, rfl, _, _, _, _, hL, _⟩
            have HD : Hid (LSt w t M d (E.filterMap (tickE d)) x4) := hL
            clear hL QT S3 c0 c2 c26
            go_wp2_with fail
            go_roundw
            case rel => exact ⟨i + 1, E.filterMap (tickE d), by first | rfl | go_num, by have := HLT.out; omega, HD⟩
            case measure => have := HLT.out; simp [intOf]; omega
          · have q3 : (kd == 3) = false := by simpa using h3
            by_cases h4 : kd = 4
            · have q4 : (kd == 4) = true := by simpa using h4
              have QG : Hid _ := S3.out.1.get o.k HOK.out.k
              rw [← HP.out.1] at QG
              clear h1 h2 h3 h4
              go_wp2_with (first | (refine wpList_mid_ipr (.tmp 87) rfl O8 3 o.k.V o.k.x rfl S3.out.2.1.ip rfl ?_))
              refine Calls.mono QG.out ?_
              rintro r x4 ⟨rfl, hL, b4⟩
              have HF : Hid (LSt w t M d E x4 ∧ NL x4 wb v (S.map (fun e => e.n.nb)) ∧ Srt E S) := ⟨hL, S3.out.2.2.1.below b4, S3.out.2.2.2⟩
              clear hL b4 QG S3 c0 c2 c26
              have hnw : ((nw : Int) != (nw : Int)) = false := by simp
              go_wp2_with fail
              refine Calls.mono HF.out.1.all ?_
              rintro r y1 ⟨v2, S2, rfl, hS2, hN2, hL2, b2⟩
              have HG : Hid (LSt w t M d E y1 ∧ NL y1 wb v (S.map (fun e => e.n.nb)) ∧ NL y1 x4.heap.size v2 (S.map (fun e => e.n.nb)) ∧ S.length ≤ 1024) := ⟨hL2, HF.out.2.1.below b2, by rw [HF.out.2.2.same hS2]; exact hN2, by rw [HF.out.2.2.1.length_eq]; exact HF.out.1.ok.len HF.out.1.cf⟩
              clear hS2 hN2 hL2 b2 HF
              go_wp2_with fail
              refine Calls.mono (sameAll_true v2 v (S.map (fun e => e.n.nb)) _ _ y1 HG.out.2.2.1 HG.out.2.1 (by rw [List.length_map]; have := HG.out.2.2.2; omega)) ?_
              rintro r y2 ⟨rfl, b2⟩
              have HG2 : Hid (LSt w t M d E y2) := HG.out.1.below b2
              clear HG b2
              go_wp2_with fail
              have QV : Hid _ := HG2.out.waiting
              rw [← HNW.out] at QV
              refine Calls.mono QV.out ?_
              rintro r y3 ⟨rfl, hL3, _⟩
              have HG3 : Hid (LSt w t M d E y3) := hL3
              clear hL3 HG2 QV
              go_wp2_with fail
              go_roundw
              case rel => exact ⟨i + 1, E, by first | rfl | go_num, by have := HLT.out; omega, HG3⟩
              case measure => have := HLT.out; simp [intOf]; omega
            · have q4 : (kd == 4) = false := by simpa using h4
              have HF : Hid (LSt w t M d E x3 ∧ NL x3 wb v (S.map (fun e => e.n.nb)) ∧ Srt E S) := ⟨S3.out.1, S3.out.2.2⟩
              clear h1 h2 h3 h4 S3
              have hnw : ((nw : Int) != (nw : Int)) = false := by simp
              go_wp2_with fail
              refine Calls.mono HF.out.1.all ?_
              rintro r y1 ⟨v2, S2, rfl, hS2, hN2, hL2, b2⟩
              have HG : Hid (LSt w t M d E y1 ∧ NL y1 wb v (S.map (fun e => e.n.nb)) ∧ NL y1 x3.heap.size v2 (S.map (fun e => e.n.nb)) ∧ S.length ≤ 1024) := ⟨hL2, HF.out.2.1.below b2, by rw [HF.out.2.2.same hS2]; exact hN2, by rw [HF.out.2.2.1.length_eq]; exact HF.out.1.ok.len HF.out.1.cf⟩
              clear hS2 hN2 hL2 b2 HF
              go_wp2_with fail
              refine Calls.mono (sameAll_true v2 v (S.map (fun e => e.n.nb)) _ _ y1 HG.out.2.2.1 HG.out.2.1 (by rw [List.length_map]; have := HG.out.2.2.2; omega)) ?_
              rintro r y2 ⟨rfl, b2⟩
              have HG2 : Hid (LSt w t M d E y2) := HG.out.1.below b2
              clear HG b2
              go_wp2_with fail
              have QV : Hid _ := HG2.out.waiting
              rw [← HNW.out] at QV
              refine Calls.mono QV.out ?_
              rintro r y3 ⟨rfl, hL3, _⟩
              have HG3 : Hid (LSt w t M d E y3) := hL3
              clear hL3 HG2 QV
              go_wp2_with fail
              go_roundw
              case rel => exact ⟨i + 1, E, by first | rfl | go_num, by have := HLT.out; omega, HG3⟩
              case measure => have := HLT.out; simp [intOf]; omega
    · have hni : ¬ ((i : Int) < (len : Int)) := by omega
      go_wp2_with fail
      go_ret
      exact ⟨rfl, ST.out.bel⟩
end Go.Proofs.Ytjfglcmnclhijaa
