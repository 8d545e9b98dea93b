/-
  NeighPatience: the walk.
-/
import Derived.Test.YtialefdojeddjaaNpPt
import Derived.Deep.CutBlock
namespace Go.Proofs.Ytialefdojeddjaa
open Go.RowKit Go.Maps

theorem ak2_first {e : EV} (h : e.n = fN) (k : KV) : ak2 [e] k = none := by
  unfold ak2
  cases hf : fE [e] k with
  | none => rfl
  | some x =>
    have := (fE_some hf).1
    simp only [List.mem_singleton] at this
    subst this
    simp only [Option.bind_some, h]
    rfl
set_option maxHeartbeats 12800000 in
set_option maxRecDepth 100000 in
theorem neighPatience.walk (w : World) (c : CF) (a : Option Addr) (len cap : Nat) (ops : List OV) (hl : ops.length = len) (hs : ListG 27 ocL OpOk w a ops) (hn : len ≤ 1048576) : Calls Try.prog 5 #[.agg (cfC c), .slice a len cap] w fun e w' => e = .returned (.bool true) ∧ Below w.heap.size w w' := by
  have HS : Hid (ListG 27 ocL OpOk w a ops ∧ ops.length = len ∧ len ≤ 1048576) := ⟨hs, hl, hn⟩
  clear hs hl hn
  have hb := cfg_new w c
  have bel : Below w.heap.size w (w.alloc (.cells (cfC c) 23)) := (Below.refl _ _).alloc (Nat.le_refl _) _
  obtain ⟨CX, hC⟩ : ∃ C, C = cfC c := ⟨_, rfl⟩
  obtain ⟨W, hW⟩ : ∃ W, W = w.alloc (.cells (cfC c) 23) := ⟨_, rfl⟩
  rw [← hW] at hb bel
  obtain ⟨B, hB⟩ : ∃ B, B = w.heap.size := ⟨_, rfl⟩
  rw [← hB] at hb
  have HBX : Hid (CfgAt W B c) := hb
  rw [← hC] at hW ⊢
  have HOX : Hid (w.heap.size = B) := hB.symm
  have HLX : Hid (Below w.heap.size w W) := bel
  have HWX : Hid (w.alloc (.cells CX 23) = W) := hW.symm
  clear hb hW hB hC bel
  have QC : Hid _ := cache_any c W
  obtain ⟨d, hd⟩ : ∃ d, d = cfR c := ⟨_, rfl⟩
  rw [← hd] at QC
  clear hd
  go_enter Try.func5, Try.ntmps5
  go_upto_region 1 with fail
  rw [HOX.out, HWX.out]
  go_wp2_with (first | (refine wpList_load_cfg (.tmp 2) rfl B c rfl HBX.out rfl ?_))
  refine Calls.mono QC.out ?_
  rintro e w1 ⟨t, M, rfl, hL⟩
  have H1 : Hid (LSt w t M d [] w1 ∧ CfgAt w1 B c) := ⟨hL.base HLX.out, HBX.out.below hL.bel⟩
  clear hL QC HBX HWX HLX
  go_wp2_with (first | (refine wpList_store_cfg (.tmp 2) (.tmp 21) rfl rfl B c d rfl rfl H1.out.2 rfl ?_))
  intro w2 h2 k2
  have H2 : Hid (LSt w t M d [] w2 ∧ CfgAt w2 B d) := ⟨H1.out.1.ch k2 (fun q hq e => H1.out.2.not H1.out.1.ca (by rw [← (show q = B from e)]; exact hq)) (fun q e => by have e' : q = B := e; have := HOX.out; omega), h2⟩
  clear h2 k2 H1
  go_wp2_with fail
  refine Calls.mono (first_any H2.out.1) ?_
  rintro r w3 ⟨rfl, e3, he3, hL, hch⟩
  have H3 : Hid (PT w t M d B [e3] [e3] 0 [] (.slice none 0 0) w3) := ⟨H2.out.2.ch hch (H2.out.2.not H2.out.1.ca), hL, BL.nil _ _, PInv.nil 0 (ak2_first he3)⟩
  clear hL H2 hch he3
  go_wp2_with fail
  go_loopw [6, 7, 8] (fun lx nx ix wr => ∃ (v : Value) (now : Int) (i : Nat), Hid (lx = v) ∧ nx = .int .i64 now ∧ ix = .int .i64 (i : Int) ∧ i ≤ len ∧ Hid (0 ≤ now ∧ now ≤ (i : Int)) ∧ Hid (∃ E L, PT w t M d B E E now L v wr ∧ L.length ≤ i)) (fun _ _ ix _ => len - (intOf ix).toNat)
  case atStart => exact ⟨_, 0, 0, rfl, rfl, rfl, by omega, ⟨by omega, by omega⟩, ⟨[e3], [], H3.out, by simp⟩⟩
  case round =>
    obtain ⟨v, now, i, HEQ, rfl, rfl, hi, HNO, HST⟩ := hrel
    clear H3
    obtain rfl := HEQ.out
    clear HEQ
    by_cases hlt : i < len
    · have k0 : (0 : Int) ≤ (i : Int) := by omega
      have k1 : (i : Int) < (len : Int) := by omega
      have k2 : ((i : Int)).toNat = i := by omega
      have wi : IntKind.i64.wrap ((i : Int) + 1) = (i : Int) + 1 := by have := HS.out.2.2; rw [IntKind.wrap_i64]; omega
      obtain ⟨E, L, hPT, hLi⟩ := HST.out
      obtain ⟨la, lc, hv⟩ := hPT.b.form
      obtain ⟨n, hn⟩ : ∃ n, n = L.length := ⟨_, rfl⟩
      rw [← hn] at hv
      subst hv
      have HVV : Hid (n ≤ i ∧ n ≤ 1048576 ∧ L.length ≤ i) := by have := HS.out.2.2; exact ⟨by omega, by omega, hLi⟩
      obtain ⟨o, hok, g0, off, rfl, hrg⟩ := op_at HS.out.1 hPT.l.bel i (by rw [HS.out.2.1]; exact hlt)
      have ST : Hid (PT w t M d B E E now L (.slice la n lc) wr) := hPT
      have HRG : Hid (wr.rangeAt g0 (off + i * 27) (opC o).toList) := hrg
      have HLT : Hid (i < len) := hlt
      have HOK : Hid (OpOk o) := hok
      clear hrg hi hlt hok hPT hLi hn HST
      go_upto_block 1 with fail
      go_cut [6, 7] (fun lx nx wx => ∃ (v' : Value) (now' : Int), lx = v' ∧ nx = .int .i64 now' ∧ Hid (0 ≤ now' ∧ now' ≤ (i : Int) + 1) ∧ Hid (∃ E2 L2, PT w t M d B E2 E2 now' L2 v' wx ∧ L2.length ≤ i + 1))
      case first =>
        go_wp2_with (first | (refine wpList_mid_opv (.tmp 37) rfl g0 (off + i * 27) o rfl HRG.out rfl ?_) | (refine wpList_alloc_opv rfl rfl ?_) | (refine wpList_store_opv (.tmp 9) (.tmp 38) rfl rfl wr.heap.size oz o rfl rfl (opv_new wr oz) rfl ?_))
        intro x3 h1 kk1
        have b1 : Below wr.heap.size wr x3 := boxed_below kk1 (fun q e => by have e' : q = wr.heap.size := e; omega)
        obtain ⟨O7, hO7⟩ : ∃ O, O = wr.heap.size := ⟨_, rfl⟩
        rw [← hO7] at h1 ⊢
        have S3 : Hid (PT w t M d B E E now L (.slice la n lc) x3 ∧ OpvAt x3 O7 o) := ⟨ST.out.below b1, h1⟩
        clear h1 kk1 b1 hO7 HRG ST
        obtain ⟨kd, hkd⟩ : ∃ kd, kd = o.kd := ⟨_, rfl⟩
        obtain ⟨pt, hpt⟩ : ∃ pt, pt = o.k.pt := ⟨_, rfl⟩
        obtain ⟨on, hon⟩ : ∃ on, on = o.n := ⟨_, rfl⟩
        have c0 : x3.cell? ⟨O7, 0, none⟩ = some (.int .i64 kd) := by rw [S3.out.2.cell 0, hkd]; rfl
        have c2 : x3.cell? ⟨O7, 2, none⟩ = some (.int .i64 pt) := by rw [S3.out.2.cell 2, hpt]; rfl
        have c26 : x3.cell? ⟨O7, 26, none⟩ = some (.int .i64 on) := by rw [S3.out.2.cell 26, hon]; rfl
        have HP : Hid (pt = o.k.pt ∧ on = o.n) := ⟨hpt, hon⟩
        clear hpt hon hkd
        go_upto_block 2 with fail
        clear c0
        by_cases h1 : kd = 1
        · have q1 : (kd == 1) = true := by simpa using h1
          have QW : Hid _ := S3.out.1.l.want o.k HOK.out.k on
          rw [← HP.out.1] at QW
          clear h1
          go_wp2_with (first | (refine wpList_mid_ipr (.tmp 47) rfl O7 3 o.k.V o.k.x rfl S3.out.2.ip rfl ?_))
          refine Calls.mono QW.out ?_
          rintro r x4 ⟨m, oc, er, E', rfl, hWR, hLL, hch, hcb, _⟩
          have S4 : Hid (PT w t M d B E' E now L (.slice la n lc) x4 ∧ OpvAt x4 O7 o) := ⟨S3.out.1.cache hLL hch, S3.out.2.ch hch (S3.out.2.not S3.out.1.l.ca)⟩
          have HAK : Hid ((er = 0 ∧ (oc = 2 ∨ oc = 3) ∧ ∀ q, ak2 E' q = if eqP o.k q then some (1, 0) else ak2 E q) ∨ (¬ (er = 0 ∧ (oc = 2 ∨ oc = 3)) ∧ ∀ q, ak2 E' q = ak2 E q)) := want_ak2 S3.out.1.l.ca.dj hWR
          clear hWR hLL hch hcb QW S3 c2 c26
          obtain ⟨D1, hD1⟩ : ∃ D, D = x4.heap.size := ⟨_, rfl⟩
          obtain ⟨Z1, hZ1⟩ : ∃ Z, Z = x4.alloc (.cells (macC mz) 33) := ⟨_, rfl⟩
          have bZ1 : Below x4.heap.size x4 Z1 := by rw [hZ1]; exact (Below.refl _ _).alloc (Nat.le_refl _) _
          have HZ1 : Hid (MacAt Z1 D1 mz ∧ Below x4.heap.size x4 Z1 ∧ x4.heap.size = D1 ∧ x4.alloc (.cells (macC mz) 33) = Z1) := ⟨by rw [hZ1, hD1]; exact mac_new x4 mz, bZ1, hD1.symm, hZ1.symm⟩
          clear hD1 hZ1 bZ1
          go_wp2_with (first | (refine wpList_alloc_mac rfl rfl ?_; rw [HZ1.out.2.2.1, HZ1.out.2.2.2]; simp only [Act.put, List.setIfInBounds_toArray, List.set_cons_succ, List.set_cons_zero]) | (refine wpList_store_mac (.tmp 10) (.tmp 52) rfl rfl D1 mz m rfl rfl HZ1.out.1 rfl ?_))
          intro x5 h5 k5
          have b5 : Below x4.heap.size x4 x5 := HZ1.out.2.1.trans (k5.below (fun q e => by have e' : q = D1 := e; have := HZ1.out.2.2.1; omega) HZ1.out.2.1.size)
          have S5 : Hid (PT w t M d B E' E now L (.slice la n lc) x5 ∧ OpvAt x5 O7 o) := ⟨S4.out.1.below b5, S4.out.2.below b5⟩
          clear h5 k5 b5 S4 HZ1
          go_wp2_with fail
          refine Calls.mono (num_any er x5) ?_
          rintro r xx ⟨rfl, rfl⟩
          have HNW : Hid (0 ≤ now ∧ now ≤ (i : Int) + 1) := ⟨HNO.out.1, by have := HNO.out.2; omega⟩
          rcases HAK.out with ⟨rfl, hoc, hq⟩ | ⟨hno, hq⟩
          · have HQ2 : Hid (∀ q, ak2 E' q = if eqP o.k q then some (1, 0) else ak2 E q) := hq
            have e2 : x5.cell? ⟨O7, 2, none⟩ = some (.int .i64 pt) := by rw [S5.out.2.cell 2, HP.out.1]; rfl
            have QR : Hid _ := S5.out.1.row rfl HVV.out.2.1 o.k HOK.out.k
            rw [← HP.out.1] at QR
            clear hq HAK
            rcases hoc with rfl | rfl
            · skip
              go_wp2_with (first | (refine wpList_mid_ipr (.tmp 70) rfl O7 3 o.k.V o.k.x rfl S5.out.2.ip rfl ?_))
              refine Calls.mono QR.out ?_
              rintro r x6 ⟨g, n1, cp1, L1, j, b, rfl, hPT, hn1, hle, hbj, hbk, b6⟩
              have hjn : j < n1 := by have := (List.getElem?_eq_some_iff.1 hbj).1; omega
              have kj0 : (0 : Int) ≤ (j : Int) := by omega
              have kj1 : (j : Int) < (n1 : Int) := by omega
              have kj2 : ((j : Int)).toNat = j := by omega
              have HR6 : Hid (PT w t M d B E' E now L1 (.slice (some ⟨g, 0, none⟩) n1 cp1) x6 ∧ L1.length = n1 ∧ n1 ≤ n + 1 ∧ L1[j]? = some b ∧ eqP b.k o.k = true) := ⟨hPT, hn1, hle, hbj, hbk⟩
              have f19 : x6.frozen? ⟨g, j * 21 + 19, none⟩ = false := hPT.b.fz _
              have f20 : x6.frozen? ⟨g, j * 21 + 20, none⟩ = false := hPT.b.fz _
              have hrg := hPT.b.rng hbj
              have c19 : x6.cell? ⟨g, j * 21 + 19, none⟩ = some (.int .i64 b.lt) := hrg 19 _ rfl
              have c20 : x6.cell? ⟨g, j * 21 + 20, none⟩ = some (.int .i64 b.ct) := hrg 20 _ rfl
              have HME : Hid (∃ E2 L2, PT w t M d B E2 E2 now L2 (.slice (some ⟨g, 0, none⟩) n1 cp1) ((x6.setCell ⟨g, j * 21 + 19, none⟩ (.int .i64 now)).setCell ⟨g, j * 21 + 20, none⟩ (.int .i64 1)) ∧ L2.length ≤ i + 1) := by
                have hti := hPT.i.turn (k := o.k) (b' := { b with lt := now, ct := 1 }) hbj hbk rfl HQ2.out (.inr ⟨1, 0, rfl, rfl, by omega, by show now = now - 0; omega⟩)
                exact ⟨E', _, hPT.set2 hn1 hbj hti, by rw [List.length_set]; have := HVV.out.1; omega⟩
              clear hPT hn1 hle hbj hbk b6 hrg HR6 S5 QR
              go_wp2_with fail
              go_meet
              exact ⟨_, _, rfl, rfl, HNW, HME⟩
            · skip
              go_wp2_with (first | (refine wpList_mid_ipr (.tmp 70) rfl O7 3 o.k.V o.k.x rfl S5.out.2.ip rfl ?_))
              refine Calls.mono QR.out ?_
              rintro r x6 ⟨g, n1, cp1, L1, j, b, rfl, hPT, hn1, hle, hbj, hbk, b6⟩
              have hjn : j < n1 := by have := (List.getElem?_eq_some_iff.1 hbj).1; omega
              have kj0 : (0 : Int) ≤ (j : Int) := by omega
              have kj1 : (j : Int) < (n1 : Int) := by omega
              have kj2 : ((j : Int)).toNat = j := by omega
              have HR6 : Hid (PT w t M d B E' E now L1 (.slice (some ⟨g, 0, none⟩) n1 cp1) x6 ∧ L1.length = n1 ∧ n1 ≤ n + 1 ∧ L1[j]? = some b ∧ eqP b.k o.k = true) := ⟨hPT, hn1, hle, hbj, hbk⟩
              have f19 : x6.frozen? ⟨g, j * 21 + 19, none⟩ = false := hPT.b.fz _
              have f20 : x6.frozen? ⟨g, j * 21 + 20, none⟩ = false := hPT.b.fz _
              have hrg := hPT.b.rng hbj
              have c19 : x6.cell? ⟨g, j * 21 + 19, none⟩ = some (.int .i64 b.lt) := hrg 19 _ rfl
              have c20 : x6.cell? ⟨g, j * 21 + 20, none⟩ = some (.int .i64 b.ct) := hrg 20 _ rfl
              have HME : Hid (∃ E2 L2, PT w t M d B E2 E2 now L2 (.slice (some ⟨g, 0, none⟩) n1 cp1) ((x6.setCell ⟨g, j * 21 + 19, none⟩ (.int .i64 now)).setCell ⟨g, j * 21 + 20, none⟩ (.int .i64 1)) ∧ L2.length ≤ i + 1) := by
                have hti := hPT.i.turn (k := o.k) (b' := { b with lt := now, ct := 1 }) hbj hbk rfl HQ2.out (.inr ⟨1, 0, rfl, rfl, by omega, by show now = now - 0; omega⟩)
                exact ⟨E', _, hPT.set2 hn1 hbj hti, by rw [List.length_set]; have := HVV.out.1; omega⟩
              clear hPT hn1 hle hbj hbk b6 hrg HR6 S5 QR
              go_wp2_with fail
              go_meet
              exact ⟨_, _, rfl, rfl, HNW, HME⟩
          · have HME : Hid (∃ E2 L2, PT w t M d B E2 E2 now L2 (.slice la n lc) x5 ∧ L2.length ≤ i + 1) := ⟨E', L, S5.out.1.inv (S5.out.1.i.same hq), by have := HVV.out.2.2; omega⟩
            clear hq HAK S5
            by_cases h0 : er = 0
            · have q0 : (er == 0) = true := by simpa using h0
              have q2 : (oc == 2) = false := by rw [beq_eq_false_iff_ne]; exact fun h => hno ⟨h0, .inl h⟩
              have q3 : (oc == 3) = false := by rw [beq_eq_false_iff_ne]; exact fun h => hno ⟨h0, .inr h⟩
              clear h0 hno
              go_wp2_with fail
              go_meet
              exact ⟨_, _, rfl, rfl, HNW, HME⟩
            · have q0 : (er == 0) = false := by simpa using h0
              clear h0 hno
              go_wp2_with fail
              go_meet
              exact ⟨_, _, rfl, rfl, HNW, HME⟩
        · have q1 : (kd == 1) = false := by simpa using h1
          by_cases h2 : kd = 2
          · have q2 : (kd == 2) = true := by simpa using h2
            have QL : Hid _ := S3.out.1.l.learn o.k HOK.out.k o.m HOK.out.m on
            rw [← HP.out.1] at QL
            clear h1 h2
            go_wp2_with (first | (refine wpList_mid_ipr (.tmp 89) rfl O7 3 o.k.V o.k.x rfl S3.out.2.ip rfl ?_) | (refine wpList_mid_mac (.tmp 91) rfl O7 20 o.m rfl S3.out.2.mac rfl ?_))
            refine Calls.mono QL.out ?_
            rintro r x4 ⟨lv, l, er, E', rfl, hLR, hLL, hch, _, _, _⟩
            have S4 : Hid (PT w t M d B E' E now L (.slice la n lc) x4 ∧ OpvAt x4 O7 o) := ⟨S3.out.1.cache hLL hch, S3.out.2.ch hch (S3.out.2.not S3.out.1.l.ca)⟩
            have HAK : Hid ((∀ q, ak2 E' q = ak2 E q) ∨ ∀ q, ak2 E' q = if eqP o.k q then none else ak2 E q) := learn_ak2 S3.out.1.l.ca.dj hLR
            clear hLR hLL hch QL S3 c2 c26
            have HNW : Hid (0 ≤ now ∧ now ≤ (i : Int) + 1) := ⟨HNO.out.1, by have := HNO.out.2; omega⟩
            have e2 : x4.cell? ⟨O7, 2, none⟩ = some (.int .i64 pt) := by rw [S4.out.2.cell 2, HP.out.1]; rfl
            obtain ⟨la2, lc2, hvv, hBR, _, _, _⟩ := S4.out.1.b.cap
            simp only [Value.slice.injEq] at hvv
            obtain ⟨rfl, hnl, rfl⟩ := hvv
            have QP : Hid _ := place_any la n lc L o.k.pt o.k.V o.k.x x4 hBR hnl.symm (by have := HVV.out.2.1; omega)
            obtain ⟨fd, hfd⟩ : ∃ fd, fd = plI L ⟨o.k.pt, o.k.V, o.k.x⟩ 0 := ⟨_, rfl⟩
            rw [← hfd, ← HP.out.1] at QP
            have HFD : Hid (fd = plI L o.k 0 ∧ L.length = n) := ⟨hfd, hnl.symm⟩
            clear hfd hBR hnl
            go_wp2_with (first | (refine wpList_mid_ipr (.tmp 99) rfl O7 3 o.k.V o.k.x rfl S4.out.2.ip rfl ?_))
            refine Calls.mono QP.out ?_
            rintro r x5 ⟨rfl, b5⟩
            have S5 : Hid (PT w t M d B E' E now L (.slice la n lc) x5 ∧ OpvAt x5 O7 o) := ⟨S4.out.1.below b5, S4.out.2.below b5⟩
            clear b5 S4 QP e2
            rcases plI_cases o.k L 0 with ⟨g1, g2⟩ | ⟨j, b, g1, g2, g3⟩
            · obtain rfl : fd = -1 := by rw [HFD.out.1]; exact g1
              have hno : ak2 E o.k = none := by
                cases hc : ak2 E o.k with
                | none => rfl
                | some x =>
                  obtain ⟨b, hb, hbk⟩ := S5.out.1.i.co o.k (by rw [hc]; simp)
                  rw [g2 b hb] at hbk; cases hbk
              have HME : Hid (∃ E2 L2, PT w t M d B E2 E2 now L2 (.slice la n lc) x5 ∧ L2.length ≤ i + 1) := by
                refine ⟨E', L, S5.out.1.inv (S5.out.1.i.same (fun q => ?_)), by have := HVV.out.2.2; omega⟩
                rcases HAK.out with hq | hq
                · exact hq q
                · rw [hq q]
                  by_cases hkq : eqP o.k q = true
                  · rw [if_pos hkq, ← ak2_eq hkq, hno]
                  · rw [if_neg hkq]
              clear g1 g2 hno HFD HAK S5
              go_wp2_with fail
              go_meet
              exact ⟨_, _, rfl, rfl, HNW, HME⟩
            · obtain rfl : fd = (j : Int) := by rw [HFD.out.1]; simpa using g3
              have hjn : j < n := by have := (List.getElem?_eq_some_iff.1 g1).1; have := HFD.out.2; omega
              have kj0 : (0 : Int) ≤ (j : Int) := by omega
              have kj1 : (j : Int) < (n : Int) := by omega
              have kj2 : ((j : Int)).toNat = j := by omega
              have HBJ : Hid (L[j]? = some b ∧ eqP b.k o.k = true) := ⟨g1, g2⟩
              have e2 : x5.cell? ⟨O7, 2, none⟩ = some (.int .i64 pt) := by rw [S5.out.2.cell 2, HP.out.1]; rfl
              have QA : Hid _ := asking_any S5.out.1.l o.k HOK.out.k
              rw [← HP.out.1] at QA
              obtain ⟨ib, hib⟩ : ∃ ib, ib = akB E' o.k := ⟨_, rfl⟩
              rw [← hib] at QA
              have HIB : Hid (akB E' o.k = ib) := hib.symm
              clear g1 g2 g3 hib
              go_wp2_with (first | (refine wpList_mid_ipr (.tmp 108) rfl O7 3 o.k.V o.k.x rfl S5.out.2.ip rfl ?_))
              refine Calls.mono QA.out ?_
              rintro r x6 ⟨rfl, _, b6⟩
              have S6 : Hid (PT w t M d B E' E now L (.slice la n lc) x6) := S5.out.1.below b6
              clear b6 S5 QA e2
              cases ib with
              | true =>
                have HME : Hid (∃ E2 L2, PT w t M d B E2 E2 now L2 (.slice la n lc) x6 ∧ L2.length ≤ i + 1) := by
                  refine ⟨E', L, S6.out.inv (S6.out.i.same ?_), by have := HVV.out.2.2; omega⟩
                  rcases HAK.out with hq | hq
                  · exact hq
                  · have h9 := hq o.k
                    rw [if_pos (eqP_refl _)] at h9
                    have h8 := HIB.out
                    rw [akB_ak2, h9] at h8
                    cases h8
                clear S6 HAK
                go_wp2_with fail
                go_meet
                exact ⟨_, _, rfl, rfl, HNW, HME⟩
              | false =>
                obtain ⟨g, cp, hgg, _, _, hrg⟩ := S6.out.b.at j b HBJ.out.1
                rw [HFD.out.2] at hgg
                simp only [Value.slice.injEq] at hgg
                obtain ⟨rfl, _, rfl⟩ := hgg
                have f20 : x6.frozen? ⟨g, j * 21 + 20, none⟩ = false := S6.out.b.fz _
                have c20 : x6.cell? ⟨g, j * 21 + 20, none⟩ = some (.int .i64 b.ct) := hrg 20 _ rfl
                have HME : Hid (∃ E2 L2, PT w t M d B E2 E2 now L2 (.slice (some ⟨g, 0, none⟩) n lc) (x6.setCell ⟨g, j * 21 + 20, none⟩ (.int .i64 0)) ∧ L2.length ≤ i + 1) := by
                  have hn0 : ak2 E' o.k = none := by
                    have h8 := HIB.out
                    rw [akB_ak2] at h8
                    simpa using h8
                  have hq : ∀ q, ak2 E' q = if eqP o.k q then none else ak2 E q := fun q => by
                    by_cases hkq : eqP o.k q = true
                    · rw [if_pos hkq, ← ak2_eq hkq, hn0]
                    · rw [if_neg hkq]
                      rcases HAK.out with h9 | h9
                      · exact h9 q
                      · rw [h9 q, if_neg hkq]
                  have hti := S6.out.i.turn (k := o.k) (b' := { b with ct := 0 }) HBJ.out.1 HBJ.out.2 rfl hq (.inl ⟨rfl, rfl⟩)
                  exact ⟨E', _, S6.out.set HFD.out.2 HBJ.out.1 (by omega) rfl hti, by rw [List.length_set]; have := HVV.out.2.2; omega⟩
                clear S6 HAK hrg
                go_wp2_with fail
                go_meet
                exact ⟨_, _, rfl, rfl, HNW, HME⟩
          · have q2 : (kd == 2) = false := by simpa using h2
            by_cases h3 : kd = 3
            · have q3 : (kd == 3) = true := by simpa using h3
              have QT : Hid _ := S3.out.1.l.tick
              have wn : IntKind.i64.wrap (now + 1) = now + 1 := by have := HNO.out; have := HVV.out; have := HLT.out; have := HS.out.2.2; rw [IntKind.wrap_i64]; omega
              clear h1 h2 h3
              go_wp2_with fail
              refine Calls.mono QT.out ?_
              rintro r x4 ⟨av, lv, Kd, rfl, hp, hs, hA, _, hLL, hch⟩
              have hPT := S3.out.1.cache hLL hch
              have HNW : Hid (0 ≤ now + 1 ∧ now + 1 ≤ (i : Int) + 1) := ⟨by have := HNO.out.1; omega, by have := HNO.out.2; omega⟩
              have hlen : L.length = n := by obtain ⟨la2, lc2, hvv⟩ := hPT.b.form; simp only [Value.slice.injEq] at hvv; exact hvv.2.1.symm
              have h7 : (dueL d E).length ≤ E.length := by
                unfold dueL
                rw [List.length_map]
                exact List.length_filter_le _ _
              have hasz : (asksL d (E.map (ag1 d)) Kd).length ≤ 100000 := by
                have h9 := asks_len d (E.map (ag1 d)) Kd
                have h8 := hp.length_eq
                have h6 := S3.out.1.l.ok.len S3.out.1.l.cf
                omega
              have hnw : 0 ≤ now + 1 ∧ now + 1 ≤ 2000000 := by
                have := HNW.out
                have := HLT.out
                have := HS.out.2.2
                exact ⟨by omega, by omega⟩
              have QD : Hid _ := due_any hLL w.heap.size n la lc L hPT.b (Nat.le_refl _) hlen HVV.out.2.1 _ av _ hA hasz (now + 1) hnw (fun b hb => ⟨due_ok S3.out.1.l.ca.dj S3.out.1.l.ok S3.out.1.i b hb, S3.out.1.i.wf b hb⟩) (asks_side S3.out.1.l.ca.dj S3.out.1.l.ok S3.out.1.l.ca.wf S3.out.1.i hp hs)
              clear h7 hasz hnw
              have HI2 : Hid (PInv (E.filterMap (tickE d)) (now + 1) (L.map (dB d (E.filterMap (tickE d)) (now + 1)))) := due_inv S3.out.1.l.ca.dj S3.out.1.i
              have S4 : Hid (CfgAt x4 B d ∧ L.length = n) := ⟨hPT.c, hlen⟩
              have HBC : Hid (∀ X, Ch (fun q => (Value.slice la n lc).ownBlock = some q) x4 X → CfgAt X B d) := fun X k => hPT.c.ch k (fun s => by obtain ⟨_, _, cc, hcc⟩ := hPT.b.cells B s; exact kind_ne' hcc hPT.c (by decide) rfl)
              clear hp hs hA hLL hch QT S3 c2 c26 hPT hlen
              go_wp2_with (first | (refine wpList_load_cfg (.tmp 2) rfl B d rfl S4.out.1 rfl ?_))
              refine Calls.mono QD.out ?_
              rintro r x5 ⟨rfl, hL5, hB5, k5⟩
              have HME : Hid (∃ E2 L2, PT w t M d B E2 E2 (now + 1) L2 (.slice la n lc) x5 ∧ L2.length ≤ i + 1) := ⟨_, _, ⟨HBC.out x5 k5, hL5, hB5, HI2.out⟩, by rw [List.length_map]; have := HVV.out.2.2; omega⟩
              clear hL5 hB5 k5 QD S4 HBC HI2
              go_wp2_with fail
              go_meet
              exact ⟨_, _, rfl, rfl, HNW, HME⟩
            · have q3 : (kd == 3) = false := by simpa using h3
              have HNW : Hid (0 ≤ now ∧ now ≤ (i : Int) + 1) := ⟨HNO.out.1, by have := HNO.out.2; omega⟩
              have HME : Hid (∃ E2 L2, PT w t M d B E2 E2 now L2 (.slice la n lc) x3 ∧ L2.length ≤ i + 1) := ⟨E, L, S3.out.1, by have := HVV.out.2.2; omega⟩
              clear h1 h2 h3 S3
              go_wp2_with fail
              go_meet
              exact ⟨_, _, rfl, rfl, HNW, HME⟩
      case rest =>
        obtain ⟨v', now', rfl, rfl, HNW, HME⟩ := hcut
        clear ST HRG
        go_wp2_with fail
        go_roundw
        case rel => exact ⟨_, now', i + 1, rfl, rfl, by first | rfl | go_num, by have := HLT.out; omega, ⟨HNW.out.1, by have := HNW.out.2; omega⟩, HME⟩
        case measure => have := HLT.out; simp [intOf]; omega
    · have hni : ¬ ((i : Int) < (len : Int)) := by omega
      have HE : Hid (Below w.heap.size w wr) := by obtain ⟨E, L, hPT, _⟩ := HST.out; exact hPT.l.bel
      clear HST
      go_wp2_with fail
      go_ret
      exact ⟨rfl, HE.out⟩
end Go.Proofs.Ytialefdojeddjaa
