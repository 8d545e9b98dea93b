/-
  NeighItems: the walk.
-/
import Derived.Test.YtialefdojeddjaaNiLo
import Derived.Deep.CutBlock
namespace Go.Proofs.Ytialefdojeddjaa
open Go.RowKit Go.Maps

theorem ln_first {e : EV} (h : e.n = fN) (k : KV) : lnE [e] k = [] := by
  cases hf : fE [e] k with
  | none => exact lnE_none hf
  | some x =>
    have := (fE_some hf).1
    simp only [List.mem_singleton] at this
    subst this
    rw [lnE_some hf, h]
    rfl
theorem e2_first {e : EV} (h : e.n = fN) : E2 [e] := fun a ha => by
  simp only [List.mem_singleton] at ha
  subst ha
  rw [h]
  exact ⟨fun _ => rfl, fun h1 => absurd h1 (by decide)⟩
theorem lnE_len {E : List EV} (h : ∀ e ∈ E, e.n.ln.length ≤ 64) (k : KV) : (lnE E k).length ≤ 64 := by
  cases hf : fE E k with
  | none => rw [lnE_none hf]; decide
  | some e => rw [lnE_some hf]; exact h e (fE_some hf).1
theorem flat_le (p : IR → Bool) : ∀ L : List IR, ((L.filter p).flatMap IR.it).length ≤ itN L
  | [] => by simp [itN]
  | a :: L => by
    have h := flat_le p L
    have e : itN (a :: L) = a.it.length + itN L := rfl
    rw [List.filter_cons, e]
    split
    · rw [List.flatMap_cons, List.length_append]; omega
    · omega
set_option maxHeartbeats 25600000 in
set_option maxRecDepth 100000 in
theorem neighItems.walk (w : World) (c : CF) (a : Option Addr) (len cap : Nat) (ops : List OV) (hl : ops.length = len) (hs : ListG 27 ocL OpOk w a ops) (hn : len ≤ 1048576) : Calls Try.prog 7 #[.agg (cfC c), .slice a len cap] w fun e w' => e = .returned (.bool true) ∧ Below w.heap.size w w' := by
  have HS : Hid (ListG 27 ocL OpOk w a ops ∧ ops.length = len ∧ len ≤ 1048576) := ⟨hs, hl, hn⟩
  clear hs hl hn
  have hb := cfg_new w c
  have bel : Below w.heap.size w (w.alloc (.cells (cfC c) 23)) := (Below.refl _ _).alloc (Nat.le_refl _) _
  obtain ⟨CX, hC⟩ : ∃ C, C = cfC c := ⟨_, rfl⟩
  obtain ⟨W, hW⟩ : ∃ W, W = w.alloc (.cells (cfC c) 23) := ⟨_, rfl⟩
  rw [← hW] at hb bel
  obtain ⟨B, hB⟩ : ∃ B, B = w.heap.size := ⟨_, rfl⟩
  rw [← hB] at hb
  have HBX : Hid (CfgAt W B c) := hb
  rw [← hC] at hW ⊢
  have HOX : Hid (w.heap.size = B) := hB.symm
  have HLX : Hid (Below w.heap.size w W) := bel
  have HWX : Hid (w.alloc (.cells CX 23) = W) := hW.symm
  clear hb hW hB hC bel
  have QC : Hid _ := cache_any c W
  obtain ⟨d, hd⟩ : ∃ d, d = cfR c := ⟨_, rfl⟩
  rw [← hd] at QC
  clear hd
  go_enter Try.func7, Try.ntmps7
  go_upto_region 1 with fail
  rw [HOX.out, HWX.out]
  go_wp2_with (first | (refine wpList_load_cfg (.tmp 2) rfl B c rfl HBX.out rfl ?_))
  refine Calls.mono QC.out ?_
  rintro e w1 ⟨t, M, rfl, hL⟩
  have H1 : Hid (LSt w t M d [] w1) := hL.base HLX.out
  clear hL QC HBX HWX HLX
  go_wp2_with (first | (refine wpList_alloc_cfg rfl rfl ?_) | (refine wpList_store_cfg (.tmp 6) (.tmp 24) rfl rfl w1.heap.size cz d rfl rfl (cfg_new w1 cz) rfl ?_))
  intro w2 h2 k2
  have b2 : Below w1.heap.size w1 w2 := boxed_below k2 (fun q e => by have e' : q = w1.heap.size := e; omega)
  have H2 : Hid (LSt w t M d [] w2) := H1.out.below b2
  obtain ⟨O6, hO6⟩ : ∃ O, O = w1.heap.size := ⟨_, rfl⟩
  rw [← hO6]
  clear h2 k2 b2 hO6 H1
  go_wp2_with fail
  refine Calls.mono (first_any H2.out) ?_
  rintro r w3 ⟨rfl, e3, he3, hL, _⟩
  have H3 : Hid (IT w t M d [e3] [] (.slice none 0 0) w3 ∧ IInv [e3] []) := ⟨⟨hL, e2_first he3, ⟨BL.nil _ _, fun r hr => by (cases hr), List.Pairwise.nil⟩, fun q hq => by obtain ⟨r, hr, _⟩ := hq; (cases hr), fun q hq => by obtain ⟨r, hr, _⟩ := hq; (cases hr)⟩, IInv.nil (ln_first he3)⟩
  clear hL H2 he3
  go_wp2_with fail
  go_loopw [7, 8] (fun lx ix wr => ∃ (v : Value) (i : Nat), Hid (lx = v) ∧ ix = .int .i64 (i : Int) ∧ i ≤ len ∧ Hid (∃ E L, IT w t M d E L v wr ∧ IInv E L ∧ L.length ≤ i)) (fun _ ix _ => len - (intOf ix).toNat)
  case atStart => exact ⟨_, 0, rfl, rfl, by omega, ⟨[e3], [], H3.out.1, H3.out.2, by simp⟩⟩
  case round =>
    obtain ⟨v, i, HEQ, rfl, hi, HST⟩ := hrel
    clear H3
    obtain rfl := HEQ.out
    clear HEQ
    by_cases hlt : i < len
    · have k0 : (0 : Int) ≤ (i : Int) := by omega
      have k1 : (i : Int) < (len : Int) := by omega
      have k2 : ((i : Int)).toNat = i := by omega
      have wi : IntKind.i64.wrap ((i : Int) + 1) = (i : Int) + 1 := by have := HS.out.2.2; rw [IntKind.wrap_i64]; omega
      obtain ⟨E, L, hIT, hII, hLi⟩ := HST.out
      obtain ⟨la, lc, hv⟩ := hIT.m.b.form
      rw [List.length_map] at hv
      obtain ⟨n, hn⟩ : ∃ n, n = L.length := ⟨_, rfl⟩
      rw [← hn] at hv
      subst hv
      have HVV : Hid (n ≤ i ∧ n ≤ 1048576 ∧ L.length ≤ i) := by have := HS.out.2.2; exact ⟨by omega, by omega, hLi⟩
      obtain ⟨o, hok, g0, off, rfl, hrg⟩ := op_at HS.out.1 hIT.l.bel i (by rw [HS.out.2.1]; exact hlt)
      have ST : Hid (IT w t M d E L (.slice la n lc) wr ∧ IInv E L) := ⟨hIT, hII⟩
      have HLE : Hid (∀ k, (lnE E k).length ≤ 64) := lnE_len (hIT.l.ok.lns hIT.l.cf)
      have HRG : Hid (wr.rangeAt g0 (off + i * 27) (opC o).toList) := hrg
      have HLT : Hid (i < len) := hlt
      have HOK : Hid (OpOk o) := hok
      clear hrg hi hlt hok hIT hII hLi hn HST
      go_wp2_with (first | (refine wpList_mid_opv (.tmp 40) rfl g0 (off + i * 27) o rfl HRG.out rfl ?_) | (refine wpList_alloc_opv rfl rfl ?_) | (refine wpList_store_opv (.tmp 9) (.tmp 41) rfl rfl wr.heap.size oz o rfl rfl (opv_new wr oz) rfl ?_))
      intro x3 h1 kk1
      have b1 : Below wr.heap.size wr x3 := boxed_below kk1 (fun q e => by have e' : q = wr.heap.size := e; omega)
      obtain ⟨O7, hO7⟩ : ∃ O, O = wr.heap.size := ⟨_, rfl⟩
      rw [← hO7] at h1 ⊢
      have S3 : Hid (IT w t M d E L (.slice la n lc) x3 ∧ OpvAt x3 O7 o ∧ IInv E L) := ⟨ST.out.1.below b1, h1, ST.out.2⟩
      clear h1 kk1 b1 hO7 HRG ST
      obtain ⟨kd, hkd⟩ : ∃ kd, kd = o.kd := ⟨_, rfl⟩
      obtain ⟨pt, hpt⟩ : ∃ pt, pt = o.k.pt := ⟨_, rfl⟩
      obtain ⟨on, hon⟩ : ∃ on, on = o.n := ⟨_, rfl⟩
      have c0 : x3.cell? ⟨O7, 0, none⟩ = some (.int .i64 kd) := by rw [S3.out.2.1.cell 0, hkd]; rfl
      have c2 : x3.cell? ⟨O7, 2, none⟩ = some (.int .i64 pt) := by rw [S3.out.2.1.cell 2, hpt]; rfl
      have c26 : x3.cell? ⟨O7, 26, none⟩ = some (.int .i64 on) := by rw [S3.out.2.1.cell 26, hon]; rfl
      have HP : Hid (pt = o.k.pt ∧ on = o.n) := ⟨hpt, hon⟩
      clear hpt hon hkd
      go_upto_block 2 with fail
      clear c0
      go_cut [7] (fun lx wx => ∃ (v' : Value), lx = v' ∧ Hid (∃ E2 L2, IT w t M d E2 L2 v' wx ∧ IInv E2 L2 ∧ L2.length ≤ i + 1))
      case first =>
        by_cases h1 : kd = 1
        · have q1 : (kd == 1) = true := by simpa using h1
          have QW : Hid _ := S3.out.1.l.want o.k HOK.out.k on
          rw [← HP.out.1] at QW
          clear h1
          go_wp2_with (first | (refine wpList_mid_ipr (.tmp 50) rfl O7 3 o.k.V o.k.x rfl S3.out.2.1.ip rfl ?_))
          refine Calls.mono QW.out ?_
          rintro rr x4 ⟨m, oc, er, E', rfl, hWR, hLL, hch, hcb, _⟩
          have S4 : Hid (IT w t M d E' L (.slice la n lc) x4 ∧ OpvAt x4 O7 o) := ⟨S3.out.1.cache hLL (hWR.n2 S3.out.1.e2) hch hcb, S3.out.2.1.ch hch (S3.out.2.1.not S3.out.1.l.ca)⟩
          have HAK : Hid ((er = 0 ∧ (oc = 3 ∨ oc = 4) ∧ ∀ q, lnE E' q = if eqP o.k q then lnE E o.k ++ [on] else lnE E q) ∨ (¬ (er = 0 ∧ (oc = 3 ∨ oc = 4)) ∧ ∀ q, lnE E' q = lnE E q)) := want_ln S3.out.1.l.ca.dj S3.out.1.l.ok hWR
          have HIN : Hid (IInv E L) := S3.out.2.2
          clear hWR hLL hch hcb QW S3 c2 c26
          obtain ⟨D1, hD1⟩ : ∃ D, D = x4.heap.size := ⟨_, rfl⟩
          obtain ⟨Z1, hZ1⟩ : ∃ Z, Z = x4.alloc (.cells (macC mz) 33) := ⟨_, rfl⟩
          have bZ1 : Below x4.heap.size x4 Z1 := by rw [hZ1]; exact (Below.refl _ _).alloc (Nat.le_refl _) _
          have HZ1 : Hid (MacAt Z1 D1 mz ∧ Below x4.heap.size x4 Z1 ∧ x4.heap.size = D1 ∧ x4.alloc (.cells (macC mz) 33) = Z1) := ⟨by rw [hZ1, hD1]; exact mac_new x4 mz, bZ1, hD1.symm, hZ1.symm⟩
          clear hD1 hZ1 bZ1
          go_wp2_with (first | (refine wpList_alloc_mac rfl rfl ?_; rw [HZ1.out.2.2.1, HZ1.out.2.2.2]; simp only [Act.put, List.setIfInBounds_toArray, List.set_cons_succ, List.set_cons_zero]) | (refine wpList_store_mac (.tmp 10) (.tmp 55) rfl rfl D1 mz m rfl rfl HZ1.out.1 rfl ?_))
          intro x5 h5 k5
          have b5 : Below x4.heap.size x4 x5 := HZ1.out.2.1.trans (k5.below (fun q e => by have e' : q = D1 := e; have := HZ1.out.2.2.1; omega) HZ1.out.2.1.size)
          have S5 : Hid (IT w t M d E' L (.slice la n lc) x5 ∧ OpvAt x5 O7 o) := ⟨S4.out.1.below b5, S4.out.2.below b5⟩
          clear h5 k5 b5 S4 HZ1
          go_wp2_with fail
          refine Calls.mono (num_any er x5) ?_
          rintro rr xx ⟨rfl, rfl⟩
          rcases HAK.out with ⟨rfl, hoc, hq⟩ | ⟨hno, hq⟩
          · have HQ2 : Hid (∀ q, lnE E' q = if eqP o.k q then lnE E o.k ++ [on] else lnE E q) := hq
            have e2 : x5.cell? ⟨O7, 2, none⟩ = some (.int .i64 pt) := by rw [S5.out.2.cell 2, HP.out.1]; rfl
            have QR : Hid _ := S5.out.1.row HIN.out rfl HVV.out.2.1 o.k HOK.out.k
            rw [← HP.out.1] at QR
            clear hq HAK
            rcases hoc with rfl | rfl
            · skip
              go_wp2_with (first | (refine wpList_mid_ipr (.tmp 73) rfl O7 3 o.k.V o.k.x rfl S5.out.2.ip rfl ?_))
              refine Calls.mono QR.out ?_
              rintro rr x6 ⟨g, n1, cp1, L1, j, r, rfl, hIT, hII, hn1, hle, hbj, hbk, b6⟩
              have hjn : j < n1 := by have := (List.getElem?_eq_some_iff.1 hbj).1; omega
              have kj0 : (0 : Int) ≤ (j : Int) := by omega
              have kj1 : (j : Int) < (n1 : Int) := by omega
              have kj2 : ((j : Int)).toNat = j := by omega
              have HR6 : Hid (IInv E L1 ∧ L1.length = n1 ∧ n1 ≤ n + 1 ∧ L1[j]? = some r ∧ eqP r.k o.k = true ∧ r ∈ L1) := ⟨hII, hn1, hle, hbj, hbk, List.mem_of_getElem? hbj⟩
              have HX6 : Hid (IT w t M d E' L1 (.slice (some ⟨g, 0, none⟩) n1 cp1) x6 ∧ OpvAt x6 O7 o) := ⟨hIT, S5.out.2.below b6⟩
              obtain ⟨ln, hln⟩ : ∃ ln, ln = r.it.length := ⟨_, rfl⟩
              obtain ⟨la2, hla2⟩ : ∃ x, x = r.b.la := ⟨_, rfl⟩
              obtain ⟨lc2, hlc2⟩ : ∃ x, x = r.b.lc := ⟨_, rfl⟩
              have hnn : r.b.n = ln := by rw [hln]; exact hIT.m.len HR6.out.2.2.2.2.2
              have HLV : Hid (ivS r.b = .slice la2 ln lc2) := by show _ = _; unfold ivS; rw [hla2, hlc2, hnn]
              have HLS : Hid (r.it.length ≤ 64) := by show _ ≤ _; rw [hII.ok r HR6.out.2.2.2.2.2]; exact HLE.out r.k
              have HSS : Hid (∀ A, IT w t M d E' L1 (.slice (some ⟨g, 0, none⟩) n1 cp1) A → OpvAt A O7 o → A.cell? ⟨g, j * 21 + 18, none⟩ = some (.slice la2 ln lc2) ∧ A.cell? ⟨O7, 26, none⟩ = some (.int .i64 on)) := fun A h1 h2 => by
                refine ⟨?_, by rw [h2.cell 26, HP.out.2]; rfl⟩
                have h7 := (BL.rng h1.m.b (j := j) (e := r.b) (by rw [List.getElem?_map, HR6.out.2.2.2.1]; rfl)) 18 (ivS r.b) rfl
                rw [HLV.out] at h7
                exact h7
              clear hIT hII hn1 hle hbj hbk b6 hln hla2 hlc2 hnn S5 QR
              go_upto_region 15 with fail
              refine MixH.start (fun A => A.cell? ⟨O7, 26, none⟩ = some (.int .i64 on)) (by kernel_rfl) ?_
              obtain ⟨x7, hx7⟩ : ∃ x7, x7 = x6.drew := ⟨_, rfl⟩
              have bdr : Below x6.heap.size x6 x7 := by rw [hx7]; exact (Below.refl _ _).drew
              have HST7 : Hid (IT w t M d E' L1 (.slice (some ⟨g, 0, none⟩) n1 cp1) x7 ∧ OpvAt x7 O7 o) := ⟨HX6.out.1.below bdr, HX6.out.2.below bdr⟩
              have hS := (HSS.out x7 HST7.out.1 HST7.out.2).2
              rw [← hx7]
              clear hx7 bdr HX6
              refine MixH.takes [true, true, true, true] 10 (by kernel_rfl) (by kernel_rfl) (by decide) (by kernel_rfl) hS (fun K hK => ?_)
              simp only [Mix.pick]
              repeat (go_big_quiet_step (fail))
              refine wpQuiet_nil (hK _ ?_)
              clear hK K
              refine MixH.takes [false, false, false, false, true] 9 (by kernel_rfl) (by kernel_rfl) (by decide) (by kernel_rfl) hS (fun K hK => ?_)
              simp only [Mix.pick]
              repeat (go_big_quiet_step (fail))
              refine wpQuiet_nil (hK _ ?_)
              clear hK K
              refine MixH.takes [false, false, false, false, false, true] 8 (by kernel_rfl) (by kernel_rfl) (by decide) (by kernel_rfl) hS (fun K hK => ?_)
              simp only [Mix.pick]
              repeat (go_big_quiet_step (fail))
              refine wpQuiet_nil (hK _ ?_)
              clear hK K
              refine MixH.takes [false, false, false, false, false, false, false, true] 7 (by kernel_rfl) (by kernel_rfl) (by decide) (by kernel_rfl) hS (fun K hK => ?_)
              simp only [Mix.pick]
              repeat (go_big_quiet_step (fail))
              refine wpQuiet_nil (hK _ ?_)
              clear hK K
              refine MixH.take 6 8 _ (.int .i64 on) rfl (by kernel_rfl) (by kernel_rfl) (by kernel_rfl) (by kernel_rfl) (yields_int (.tmp 85) rfl ⟨O7, 26, none⟩ (.int .i64 on) rfl rfl (fun A hA => hA)) hS (fun a' ha => ?_)
              simp only [Act.put, List.setIfInBounds_toArray, List.set_cons_succ, List.set_cons_zero] at ha
              subst ha
              refine MixH.pair [false, false, false, false, false, false, true] [false, false, false, false, false, false, false, false, false, true] 5 6 9 _ _ rfl rfl rfl rfl (by kernel_rfl) (by kernel_rfl) (fun K hK => ?_) (fun K hK => ?_)
              · skip
                simp only [Mix.pick]
                have c18 := (HSS.out x7 HST7.out.1 HST7.out.2).1
                go_wp2_with fail
                clear c18
                refine ⟨rfl, hK _ _ hS ?_⟩
                clear hK K
                refine MixH.one [false, false, false, false, false, false, false, false, false, true] 4 9 _ rfl rfl (by kernel_rfl) (by kernel_rfl) (fun K hK => ?_)
                simp only [Mix.pick]
                have bY : Below x7.heap.size x7 (x7.alloc (.cells #[.int .i64 on] 3)) := (Below.refl _ _).alloc (Nat.le_refl _) _
                have HY : Hid ((IT w t M d E' L1 (.slice (some ⟨g, 0, none⟩) n1 cp1) (x7.alloc (.cells #[.int .i64 on] 3)) ∧ OpvAt (x7.alloc (.cells #[.int .i64 on] 3)) O7 o) ∧ (x7.alloc (.cells #[.int .i64 on] 3)).cell? ⟨x7.heap.size, 0, none⟩ = some (.int .i64 on)) := ⟨⟨HST7.out.1.below bY, HST7.out.2.below bY⟩, by rw [World.cell?_alloc_at _ _ _ _ rfl]; rfl⟩
                have hSn := (HSS.out _ HY.out.1.1 HY.out.1.2).2
                clear bY HST7
                refine wpList_bs1i (.tmp 86) rfl on rfl rfl ?_
                go_wp2
                replace hS := hSn
                refine ⟨rfl, hK _ _ hS ?_⟩
                clear hK K
                obtain ⟨Bq, hBq⟩ : ∃ B, B = x7.heap.size := ⟨_, rfl⟩
                obtain ⟨x8, hx8⟩ : ∃ x, x = x7.alloc (.cells #[.int .i64 on] 3) := ⟨_, rfl⟩
                rw [← hBq, ← hx8] at HY
                rw [← hx8] at hS hSn
                rw [← hBq, ← hx8]
                clear hSn hBq hx8
                refine MixH.one [false, false, false, false, false, false, false, false, false, false, true] 3 10 _ rfl rfl (by kernel_rfl) (by kernel_rfl) (fun K hK => ?_)
                simp only [Mix.pick]
                refine wpList_app1i rfl (.tmp 84) (.tmp 87) rfl (.slice la2 ln lc2) r.it rfl (by rw [← HLV.out]; exact HY.out.1.1.m.l r HR6.out.2.2.2.2.2) Bq on rfl HY.out.2 (by have := HLS.out; omega) ?_
                intro v9 x9 h9 g9 f9
                obtain ⟨va, vc, hva⟩ := LnAt.form h9
                obtain ⟨vn, hvn⟩ : ∃ vn, vn = (r.it ++ [on]).length := ⟨_, rfl⟩
                rw [← hvn] at hva
                subst hva
                have kc : Ch (fun q => (ivS r.b).ownBlock = some q) x8 x9 := by rw [HLV.out]; exact Ch.ofGrown g9
                have i1 : ∀ q, (ivS r.b).ownBlock = some q → itB L1 q := fun q hq => ⟨r, HR6.out.2.2.2.2.2, hq⟩
                have hO9 : OpvAt x9 O7 o := HY.out.1.2.ch kc (fun e => by
                  obtain ⟨c, hc⟩ := HY.out.1.1.m.kind (i1 O7 e)
                  exact kind_ne' hc HY.out.1.2 (by decide) rfl)
                have hB9 := HY.out.1.1.m.b.ch kc (fun q hq e => HY.out.1.1.m.ne (i1 q e) hq rfl)
                have HFIN : Hid ((IT w t M d E' (L1.set j (irp r va vn vc (r.it ++ [on]))) (.slice (some ⟨g, 0, none⟩) n1 cp1) (x9.setCell ⟨g, j * 21 + 18, none⟩ (.slice va vn vc)) ∧ IInv E' (L1.set j (irp r va vn vc (r.it ++ [on])))) ∧ OpvAt (x9.setCell ⟨g, j * 21 + 18, none⟩ (.slice va vn vc)) O7 o ∧ x9.frozen? ⟨g, j * 21 + 18, none⟩ = false ∧ x9.cell? ⟨g, j * 21 + 18, none⟩ = some (.slice la2 ln lc2)) := by
                  have hit : r.it = lnE E o.k := by rw [HR6.out.1.ok r HR6.out.2.2.2.2.2]; exact lnE_eq HR6.out.2.2.2.2.1
                  obtain ⟨_, _, cc, hcc⟩ := hB9.cells g rfl
                  refine ⟨⟨HY.out.1.1.put HR6.out.2.1 HR6.out.2.2.2.1 kc h9 (by rw [HLV.out]; exact f9), ?_⟩, hO9.ch ((Ch.refl (fun q => q = g) x9).set _ _ rfl) (fun e => kind_ne' hO9 hcc (by decide) e), hB9.fz _, ?_⟩
                  · refine HR6.out.1.turn (k := o.k) (b' := irp r va vn vc (r.it ++ [on])) HR6.out.2.2.2.1 HR6.out.2.2.2.2.1 rfl HQ2.out ?_
                    show r.it ++ [on] = _
                    rw [hit]
                  · have h7 := (BL.rng hB9 (j := j) (e := r.b) (by rw [List.getElem?_map, HR6.out.2.2.2.1]; rfl)) 18 (ivS r.b) rfl
                    rw [HLV.out] at h7
                    exact h7
                have hS9 : x9.cell? ⟨O7, 26, none⟩ = some (.int .i64 on) := by rw [hO9.cell 26, HP.out.2]; rfl
                clear h9 g9 f9 hvn kc i1 hO9 hB9 HY
                go_wp2
                replace hS := hS9
                refine ⟨rfl, hK _ _ hS ?_⟩
                clear hK K
                clear hS9
                refine MixH.takes [false, false, false, false, false, false, false, false, false, false, false, true] 2 (by kernel_rfl) (by kernel_rfl) (by decide) (by kernel_rfl) hS (fun K hK => ?_)
                simp only [Mix.pick]
                repeat (go_big_quiet_step (fail))
                refine wpQuiet_nil (hK _ ?_)
                clear hK K
                refine MixH.takes [false, false, false, false, false, false, false, false, false, false, false, false, true] 1 (by kernel_rfl) (by kernel_rfl) (by decide) (by kernel_rfl) hS (fun K hK => ?_)
                simp only [Mix.pick]
                repeat (go_big_quiet_step (fail))
                refine wpQuiet_nil (hK _ ?_)
                clear hK K
                refine MixH.one [false, false, false, false, false, false, false, false, false, false, false, false, false, true] 0 13 _ rfl rfl (by kernel_rfl) (by kernel_rfl) (fun K hK => ?_)
                simp only [Mix.pick]
                have f18 := HFIN.out.2.2.1
                have c18 := HFIN.out.2.2.2
                have hS9 : (x9.setCell ⟨g, j * 21 + 18, none⟩ (.slice va vn vc)).cell? ⟨O7, 26, none⟩ = some (.int .i64 on) := by rw [HFIN.out.2.1.cell 26, HP.out.2]; rfl
                go_wp2_with fail
                replace hS := hS9
                refine ⟨rfl, hK _ _ hS ?_⟩
                clear hK K
                clear hS9 f18 c18
                refine MixH.done (by kernel_rfl) ?_
                clear hS
                have HME : Hid (∃ E2 L2, IT w t M d E2 L2 (.slice (some ⟨g, 0, none⟩) n1 cp1) (x9.setCell ⟨g, j * 21 + 18, none⟩ (.slice va vn vc)) ∧ IInv E2 L2 ∧ L2.length ≤ i + 1) := ⟨E', _, HFIN.out.1.1, HFIN.out.1.2, by rw [List.length_set]; have := HR6.out; have := HVV.out; omega⟩
                clear HFIN
                go_wp2_with fail
                go_meet
                exact ⟨_, rfl, HME⟩
              · skip
                simp only [Mix.pick]
                have bY : Below x7.heap.size x7 (x7.alloc (.cells #[.int .i64 on] 3)) := (Below.refl _ _).alloc (Nat.le_refl _) _
                have HY : Hid ((IT w t M d E' L1 (.slice (some ⟨g, 0, none⟩) n1 cp1) (x7.alloc (.cells #[.int .i64 on] 3)) ∧ OpvAt (x7.alloc (.cells #[.int .i64 on] 3)) O7 o) ∧ (x7.alloc (.cells #[.int .i64 on] 3)).cell? ⟨x7.heap.size, 0, none⟩ = some (.int .i64 on)) := ⟨⟨HST7.out.1.below bY, HST7.out.2.below bY⟩, by rw [World.cell?_alloc_at _ _ _ _ rfl]; rfl⟩
                have hSn := (HSS.out _ HY.out.1.1 HY.out.1.2).2
                clear bY HST7
                refine wpList_bs1i (.tmp 86) rfl on rfl rfl ?_
                go_wp2
                replace hS := hSn
                refine ⟨rfl, hK _ _ hS ?_⟩
                clear hK K
                obtain ⟨Bq, hBq⟩ : ∃ B, B = x7.heap.size := ⟨_, rfl⟩
                obtain ⟨x8, hx8⟩ : ∃ x, x = x7.alloc (.cells #[.int .i64 on] 3) := ⟨_, rfl⟩
                rw [← hBq, ← hx8] at HY
                rw [← hx8] at hS hSn
                rw [← hBq, ← hx8]
                clear hSn hBq hx8
                refine MixH.one [false, false, false, false, false, false, true] 4 6 _ rfl rfl (by kernel_rfl) (by kernel_rfl) (fun K hK => ?_)
                simp only [Mix.pick]
                have c18 := (HSS.out x8 HY.out.1.1 HY.out.1.2).1
                go_wp2_with fail
                clear c18
                refine ⟨rfl, hK _ _ hS ?_⟩
                clear hK K
                refine MixH.one [false, false, false, false, false, false, false, false, false, false, true] 3 10 _ rfl rfl (by kernel_rfl) (by kernel_rfl) (fun K hK => ?_)
                simp only [Mix.pick]
                refine wpList_app1i rfl (.tmp 84) (.tmp 87) rfl (.slice la2 ln lc2) r.it rfl (by rw [← HLV.out]; exact HY.out.1.1.m.l r HR6.out.2.2.2.2.2) Bq on rfl HY.out.2 (by have := HLS.out; omega) ?_
                intro v9 x9 h9 g9 f9
                obtain ⟨va, vc, hva⟩ := LnAt.form h9
                obtain ⟨vn, hvn⟩ : ∃ vn, vn = (r.it ++ [on]).length := ⟨_, rfl⟩
                rw [← hvn] at hva
                subst hva
                have kc : Ch (fun q => (ivS r.b).ownBlock = some q) x8 x9 := by rw [HLV.out]; exact Ch.ofGrown g9
                have i1 : ∀ q, (ivS r.b).ownBlock = some q → itB L1 q := fun q hq => ⟨r, HR6.out.2.2.2.2.2, hq⟩
                have hO9 : OpvAt x9 O7 o := HY.out.1.2.ch kc (fun e => by
                  obtain ⟨c, hc⟩ := HY.out.1.1.m.kind (i1 O7 e)
                  exact kind_ne' hc HY.out.1.2 (by decide) rfl)
                have hB9 := HY.out.1.1.m.b.ch kc (fun q hq e => HY.out.1.1.m.ne (i1 q e) hq rfl)
                have HFIN : Hid ((IT w t M d E' (L1.set j (irp r va vn vc (r.it ++ [on]))) (.slice (some ⟨g, 0, none⟩) n1 cp1) (x9.setCell ⟨g, j * 21 + 18, none⟩ (.slice va vn vc)) ∧ IInv E' (L1.set j (irp r va vn vc (r.it ++ [on])))) ∧ OpvAt (x9.setCell ⟨g, j * 21 + 18, none⟩ (.slice va vn vc)) O7 o ∧ x9.frozen? ⟨g, j * 21 + 18, none⟩ = false ∧ x9.cell? ⟨g, j * 21 + 18, none⟩ = some (.slice la2 ln lc2)) := by
                  have hit : r.it = lnE E o.k := by rw [HR6.out.1.ok r HR6.out.2.2.2.2.2]; exact lnE_eq HR6.out.2.2.2.2.1
                  obtain ⟨_, _, cc, hcc⟩ := hB9.cells g rfl
                  refine ⟨⟨HY.out.1.1.put HR6.out.2.1 HR6.out.2.2.2.1 kc h9 (by rw [HLV.out]; exact f9), ?_⟩, hO9.ch ((Ch.refl (fun q => q = g) x9).set _ _ rfl) (fun e => kind_ne' hO9 hcc (by decide) e), hB9.fz _, ?_⟩
                  · refine HR6.out.1.turn (k := o.k) (b' := irp r va vn vc (r.it ++ [on])) HR6.out.2.2.2.1 HR6.out.2.2.2.2.1 rfl HQ2.out ?_
                    show r.it ++ [on] = _
                    rw [hit]
                  · have h7 := (BL.rng hB9 (j := j) (e := r.b) (by rw [List.getElem?_map, HR6.out.2.2.2.1]; rfl)) 18 (ivS r.b) rfl
                    rw [HLV.out] at h7
                    exact h7
                have hS9 : x9.cell? ⟨O7, 26, none⟩ = some (.int .i64 on) := by rw [hO9.cell 26, HP.out.2]; rfl
                clear h9 g9 f9 hvn kc i1 hO9 hB9 HY
                go_wp2
                replace hS := hS9
                refine ⟨rfl, hK _ _ hS ?_⟩
                clear hK K
                clear hS9
                refine MixH.takes [false, false, false, false, false, false, false, false, false, false, false, true] 2 (by kernel_rfl) (by kernel_rfl) (by decide) (by kernel_rfl) hS (fun K hK => ?_)
                simp only [Mix.pick]
                repeat (go_big_quiet_step (fail))
                refine wpQuiet_nil (hK _ ?_)
                clear hK K
                refine MixH.takes [false, false, false, false, false, false, false, false, false, false, false, false, true] 1 (by kernel_rfl) (by kernel_rfl) (by decide) (by kernel_rfl) hS (fun K hK => ?_)
                simp only [Mix.pick]
                repeat (go_big_quiet_step (fail))
                refine wpQuiet_nil (hK _ ?_)
                clear hK K
                refine MixH.one [false, false, false, false, false, false, false, false, false, false, false, false, false, true] 0 13 _ rfl rfl (by kernel_rfl) (by kernel_rfl) (fun K hK => ?_)
                simp only [Mix.pick]
                have f18 := HFIN.out.2.2.1
                have c18 := HFIN.out.2.2.2
                have hS9 : (x9.setCell ⟨g, j * 21 + 18, none⟩ (.slice va vn vc)).cell? ⟨O7, 26, none⟩ = some (.int .i64 on) := by rw [HFIN.out.2.1.cell 26, HP.out.2]; rfl
                go_wp2_with fail
                replace hS := hS9
                refine ⟨rfl, hK _ _ hS ?_⟩
                clear hK K
                clear hS9 f18 c18
                refine MixH.done (by kernel_rfl) ?_
                clear hS
                have HME : Hid (∃ E2 L2, IT w t M d E2 L2 (.slice (some ⟨g, 0, none⟩) n1 cp1) (x9.setCell ⟨g, j * 21 + 18, none⟩ (.slice va vn vc)) ∧ IInv E2 L2 ∧ L2.length ≤ i + 1) := ⟨E', _, HFIN.out.1.1, HFIN.out.1.2, by rw [List.length_set]; have := HR6.out; have := HVV.out; omega⟩
                clear HFIN
                go_wp2_with fail
                go_meet
                exact ⟨_, rfl, HME⟩
            · skip
              go_wp2_with (first | (refine wpList_mid_ipr (.tmp 73) rfl O7 3 o.k.V o.k.x rfl S5.out.2.ip rfl ?_))
              refine Calls.mono QR.out ?_
              rintro rr x6 ⟨g, n1, cp1, L1, j, r, rfl, hIT, hII, hn1, hle, hbj, hbk, b6⟩
              have hjn : j < n1 := by have := (List.getElem?_eq_some_iff.1 hbj).1; omega
              have kj0 : (0 : Int) ≤ (j : Int) := by omega
              have kj1 : (j : Int) < (n1 : Int) := by omega
              have kj2 : ((j : Int)).toNat = j := by omega
              have HR6 : Hid (IInv E L1 ∧ L1.length = n1 ∧ n1 ≤ n + 1 ∧ L1[j]? = some r ∧ eqP r.k o.k = true ∧ r ∈ L1) := ⟨hII, hn1, hle, hbj, hbk, List.mem_of_getElem? hbj⟩
              have HX6 : Hid (IT w t M d E' L1 (.slice (some ⟨g, 0, none⟩) n1 cp1) x6 ∧ OpvAt x6 O7 o) := ⟨hIT, S5.out.2.below b6⟩
              obtain ⟨ln, hln⟩ : ∃ ln, ln = r.it.length := ⟨_, rfl⟩
              obtain ⟨la2, hla2⟩ : ∃ x, x = r.b.la := ⟨_, rfl⟩
              obtain ⟨lc2, hlc2⟩ : ∃ x, x = r.b.lc := ⟨_, rfl⟩
              have hnn : r.b.n = ln := by rw [hln]; exact hIT.m.len HR6.out.2.2.2.2.2
              have HLV : Hid (ivS r.b = .slice la2 ln lc2) := by show _ = _; unfold ivS; rw [hla2, hlc2, hnn]
              have HLS : Hid (r.it.length ≤ 64) := by show _ ≤ _; rw [hII.ok r HR6.out.2.2.2.2.2]; exact HLE.out r.k
              have HSS : Hid (∀ A, IT w t M d E' L1 (.slice (some ⟨g, 0, none⟩) n1 cp1) A → OpvAt A O7 o → A.cell? ⟨g, j * 21 + 18, none⟩ = some (.slice la2 ln lc2) ∧ A.cell? ⟨O7, 26, none⟩ = some (.int .i64 on)) := fun A h1 h2 => by
                refine ⟨?_, by rw [h2.cell 26, HP.out.2]; rfl⟩
                have h7 := (BL.rng h1.m.b (j := j) (e := r.b) (by rw [List.getElem?_map, HR6.out.2.2.2.1]; rfl)) 18 (ivS r.b) rfl
                rw [HLV.out] at h7
                exact h7
              clear hIT hII hn1 hle hbj hbk b6 hln hla2 hlc2 hnn S5 QR
              go_upto_region 15 with fail
              refine MixH.start (fun A => A.cell? ⟨O7, 26, none⟩ = some (.int .i64 on)) (by kernel_rfl) ?_
              obtain ⟨x7, hx7⟩ : ∃ x7, x7 = x6.drew := ⟨_, rfl⟩
              have bdr : Below x6.heap.size x6 x7 := by rw [hx7]; exact (Below.refl _ _).drew
              have HST7 : Hid (IT w t M d E' L1 (.slice (some ⟨g, 0, none⟩) n1 cp1) x7 ∧ OpvAt x7 O7 o) := ⟨HX6.out.1.below bdr, HX6.out.2.below bdr⟩
              have hS := (HSS.out x7 HST7.out.1 HST7.out.2).2
              rw [← hx7]
              clear hx7 bdr HX6
              refine MixH.takes [true, true, true, true] 10 (by kernel_rfl) (by kernel_rfl) (by decide) (by kernel_rfl) hS (fun K hK => ?_)
              simp only [Mix.pick]
              repeat (go_big_quiet_step (fail))
              refine wpQuiet_nil (hK _ ?_)
              clear hK K
              refine MixH.takes [false, false, false, false, true] 9 (by kernel_rfl) (by kernel_rfl) (by decide) (by kernel_rfl) hS (fun K hK => ?_)
              simp only [Mix.pick]
              repeat (go_big_quiet_step (fail))
              refine wpQuiet_nil (hK _ ?_)
              clear hK K
              refine MixH.takes [false, false, false, false, false, true] 8 (by kernel_rfl) (by kernel_rfl) (by decide) (by kernel_rfl) hS (fun K hK => ?_)
              simp only [Mix.pick]
              repeat (go_big_quiet_step (fail))
              refine wpQuiet_nil (hK _ ?_)
              clear hK K
              refine MixH.takes [false, false, false, false, false, false, false, true] 7 (by kernel_rfl) (by kernel_rfl) (by decide) (by kernel_rfl) hS (fun K hK => ?_)
              simp only [Mix.pick]
              repeat (go_big_quiet_step (fail))
              refine wpQuiet_nil (hK _ ?_)
              clear hK K
              refine MixH.take 6 8 _ (.int .i64 on) rfl (by kernel_rfl) (by kernel_rfl) (by kernel_rfl) (by kernel_rfl) (yields_int (.tmp 85) rfl ⟨O7, 26, none⟩ (.int .i64 on) rfl rfl (fun A hA => hA)) hS (fun a' ha => ?_)
              simp only [Act.put, List.setIfInBounds_toArray, List.set_cons_succ, List.set_cons_zero] at ha
              subst ha
              refine MixH.pair [false, false, false, false, false, false, true] [false, false, false, false, false, false, false, false, false, true] 5 6 9 _ _ rfl rfl rfl rfl (by kernel_rfl) (by kernel_rfl) (fun K hK => ?_) (fun K hK => ?_)
              · skip
                simp only [Mix.pick]
                have c18 := (HSS.out x7 HST7.out.1 HST7.out.2).1
                go_wp2_with fail
                clear c18
                refine ⟨rfl, hK _ _ hS ?_⟩
                clear hK K
                refine MixH.one [false, false, false, false, false, false, false, false, false, true] 4 9 _ rfl rfl (by kernel_rfl) (by kernel_rfl) (fun K hK => ?_)
                simp only [Mix.pick]
                have bY : Below x7.heap.size x7 (x7.alloc (.cells #[.int .i64 on] 3)) := (Below.refl _ _).alloc (Nat.le_refl _) _
                have HY : Hid ((IT w t M d E' L1 (.slice (some ⟨g, 0, none⟩) n1 cp1) (x7.alloc (.cells #[.int .i64 on] 3)) ∧ OpvAt (x7.alloc (.cells #[.int .i64 on] 3)) O7 o) ∧ (x7.alloc (.cells #[.int .i64 on] 3)).cell? ⟨x7.heap.size, 0, none⟩ = some (.int .i64 on)) := ⟨⟨HST7.out.1.below bY, HST7.out.2.below bY⟩, by rw [World.cell?_alloc_at _ _ _ _ rfl]; rfl⟩
                have hSn := (HSS.out _ HY.out.1.1 HY.out.1.2).2
                clear bY HST7
                refine wpList_bs1i (.tmp 86) rfl on rfl rfl ?_
                go_wp2
                replace hS := hSn
                refine ⟨rfl, hK _ _ hS ?_⟩
                clear hK K
                obtain ⟨Bq, hBq⟩ : ∃ B, B = x7.heap.size := ⟨_, rfl⟩
                obtain ⟨x8, hx8⟩ : ∃ x, x = x7.alloc (.cells #[.int .i64 on] 3) := ⟨_, rfl⟩
                rw [← hBq, ← hx8] at HY
                rw [← hx8] at hS hSn
                rw [← hBq, ← hx8]
                clear hSn hBq hx8
                refine MixH.one [false, false, false, false, false, false, false, false, false, false, true] 3 10 _ rfl rfl (by kernel_rfl) (by kernel_rfl) (fun K hK => ?_)
                simp only [Mix.pick]
                refine wpList_app1i rfl (.tmp 84) (.tmp 87) rfl (.slice la2 ln lc2) r.it rfl (by rw [← HLV.out]; exact HY.out.1.1.m.l r HR6.out.2.2.2.2.2) Bq on rfl HY.out.2 (by have := HLS.out; omega) ?_
                intro v9 x9 h9 g9 f9
                obtain ⟨va, vc, hva⟩ := LnAt.form h9
                obtain ⟨vn, hvn⟩ : ∃ vn, vn = (r.it ++ [on]).length := ⟨_, rfl⟩
                rw [← hvn] at hva
                subst hva
                have kc : Ch (fun q => (ivS r.b).ownBlock = some q) x8 x9 := by rw [HLV.out]; exact Ch.ofGrown g9
                have i1 : ∀ q, (ivS r.b).ownBlock = some q → itB L1 q := fun q hq => ⟨r, HR6.out.2.2.2.2.2, hq⟩
                have hO9 : OpvAt x9 O7 o := HY.out.1.2.ch kc (fun e => by
                  obtain ⟨c, hc⟩ := HY.out.1.1.m.kind (i1 O7 e)
                  exact kind_ne' hc HY.out.1.2 (by decide) rfl)
                have hB9 := HY.out.1.1.m.b.ch kc (fun q hq e => HY.out.1.1.m.ne (i1 q e) hq rfl)
                have HFIN : Hid ((IT w t M d E' (L1.set j (irp r va vn vc (r.it ++ [on]))) (.slice (some ⟨g, 0, none⟩) n1 cp1) (x9.setCell ⟨g, j * 21 + 18, none⟩ (.slice va vn vc)) ∧ IInv E' (L1.set j (irp r va vn vc (r.it ++ [on])))) ∧ OpvAt (x9.setCell ⟨g, j * 21 + 18, none⟩ (.slice va vn vc)) O7 o ∧ x9.frozen? ⟨g, j * 21 + 18, none⟩ = false ∧ x9.cell? ⟨g, j * 21 + 18, none⟩ = some (.slice la2 ln lc2)) := by
                  have hit : r.it = lnE E o.k := by rw [HR6.out.1.ok r HR6.out.2.2.2.2.2]; exact lnE_eq HR6.out.2.2.2.2.1
                  obtain ⟨_, _, cc, hcc⟩ := hB9.cells g rfl
                  refine ⟨⟨HY.out.1.1.put HR6.out.2.1 HR6.out.2.2.2.1 kc h9 (by rw [HLV.out]; exact f9), ?_⟩, hO9.ch ((Ch.refl (fun q => q = g) x9).set _ _ rfl) (fun e => kind_ne' hO9 hcc (by decide) e), hB9.fz _, ?_⟩
                  · refine HR6.out.1.turn (k := o.k) (b' := irp r va vn vc (r.it ++ [on])) HR6.out.2.2.2.1 HR6.out.2.2.2.2.1 rfl HQ2.out ?_
                    show r.it ++ [on] = _
                    rw [hit]
                  · have h7 := (BL.rng hB9 (j := j) (e := r.b) (by rw [List.getElem?_map, HR6.out.2.2.2.1]; rfl)) 18 (ivS r.b) rfl
                    rw [HLV.out] at h7
                    exact h7
                have hS9 : x9.cell? ⟨O7, 26, none⟩ = some (.int .i64 on) := by rw [hO9.cell 26, HP.out.2]; rfl
                clear h9 g9 f9 hvn kc i1 hO9 hB9 HY
                go_wp2
                replace hS := hS9
                refine ⟨rfl, hK _ _ hS ?_⟩
                clear hK K
                clear hS9
                refine MixH.takes [false, false, false, false, false, false, false, false, false, false, false, true] 2 (by kernel_rfl) (by kernel_rfl) (by decide) (by kernel_rfl) hS (fun K hK => ?_)
                simp only [Mix.pick]
                repeat (go_big_quiet_step (fail))
                refine wpQuiet_nil (hK _ ?_)
                clear hK K
                refine MixH.takes [false, false, false, false, false, false, false, false, false, false, false, false, true] 1 (by kernel_rfl) (by kernel_rfl) (by decide) (by kernel_rfl) hS (fun K hK => ?_)
                simp only [Mix.pick]
                repeat (go_big_quiet_step (fail))
                refine wpQuiet_nil (hK _ ?_)
                clear hK K
                refine MixH.one [false, false, false, false, false, false, false, false, false, false, false, false, false, true] 0 13 _ rfl rfl (by kernel_rfl) (by kernel_rfl) (fun K hK => ?_)
                simp only [Mix.pick]
                have f18 := HFIN.out.2.2.1
                have c18 := HFIN.out.2.2.2
                have hS9 : (x9.setCell ⟨g, j * 21 + 18, none⟩ (.slice va vn vc)).cell? ⟨O7, 26, none⟩ = some (.int .i64 on) := by rw [HFIN.out.2.1.cell 26, HP.out.2]; rfl
                go_wp2_with fail
                replace hS := hS9
                refine ⟨rfl, hK _ _ hS ?_⟩
                clear hK K
                clear hS9 f18 c18
                refine MixH.done (by kernel_rfl) ?_
                clear hS
                have HME : Hid (∃ E2 L2, IT w t M d E2 L2 (.slice (some ⟨g, 0, none⟩) n1 cp1) (x9.setCell ⟨g, j * 21 + 18, none⟩ (.slice va vn vc)) ∧ IInv E2 L2 ∧ L2.length ≤ i + 1) := ⟨E', _, HFIN.out.1.1, HFIN.out.1.2, by rw [List.length_set]; have := HR6.out; have := HVV.out; omega⟩
                clear HFIN
                go_wp2_with fail
                go_meet
                exact ⟨_, rfl, HME⟩
              · skip
                simp only [Mix.pick]
                have bY : Below x7.heap.size x7 (x7.alloc (.cells #[.int .i64 on] 3)) := (Below.refl _ _).alloc (Nat.le_refl _) _
                have HY : Hid ((IT w t M d E' L1 (.slice (some ⟨g, 0, none⟩) n1 cp1) (x7.alloc (.cells #[.int .i64 on] 3)) ∧ OpvAt (x7.alloc (.cells #[.int .i64 on] 3)) O7 o) ∧ (x7.alloc (.cells #[.int .i64 on] 3)).cell? ⟨x7.heap.size, 0, none⟩ = some (.int .i64 on)) := ⟨⟨HST7.out.1.below bY, HST7.out.2.below bY⟩, by rw [World.cell?_alloc_at _ _ _ _ rfl]; rfl⟩
                have hSn := (HSS.out _ HY.out.1.1 HY.out.1.2).2
                clear bY HST7
                refine wpList_bs1i (.tmp 86) rfl on rfl rfl ?_
                go_wp2
                replace hS := hSn
                refine ⟨rfl, hK _ _ hS ?_⟩
                clear hK K
                obtain ⟨Bq, hBq⟩ : ∃ B, B = x7.heap.size := ⟨_, rfl⟩
                obtain ⟨x8, hx8⟩ : ∃ x, x = x7.alloc (.cells #[.int .i64 on] 3) := ⟨_, rfl⟩
                rw [← hBq, ← hx8] at HY
                rw [← hx8] at hS hSn
                rw [← hBq, ← hx8]
                clear hSn hBq hx8
                refine MixH.one [false, false, false, false, false, false, true] 4 6 _ rfl rfl (by kernel_rfl) (by kernel_rfl) (fun K hK => ?_)
                simp only [Mix.pick]
                have c18 := (HSS.out x8 HY.out.1.1 HY.out.1.2).1
                go_wp2_with fail
                clear c18
                refine ⟨rfl, hK _ _ hS ?_⟩
                clear hK K
                refine MixH.one [false, false, false, false, false, false, false, false, false, false, true] 3 10 _ rfl rfl (by kernel_rfl) (by kernel_rfl) (fun K hK => ?_)
                simp only [Mix.pick]
                refine wpList_app1i rfl (.tmp 84) (.tmp 87) rfl (.slice la2 ln lc2) r.it rfl (by rw [← HLV.out]; exact HY.out.1.1.m.l r HR6.out.2.2.2.2.2) Bq on rfl HY.out.2 (by have := HLS.out; omega) ?_
                intro v9 x9 h9 g9 f9
                obtain ⟨va, vc, hva⟩ := LnAt.form h9
                obtain ⟨vn, hvn⟩ : ∃ vn, vn = (r.it ++ [on]).length := ⟨_, rfl⟩
                rw [← hvn] at hva
                subst hva
                have kc : Ch (fun q => (ivS r.b).ownBlock = some q) x8 x9 := by rw [HLV.out]; exact Ch.ofGrown g9
                have i1 : ∀ q, (ivS r.b).ownBlock = some q → itB L1 q := fun q hq => ⟨r, HR6.out.2.2.2.2.2, hq⟩
                have hO9 : OpvAt x9 O7 o := HY.out.1.2.ch kc (fun e => by
                  obtain ⟨c, hc⟩ := HY.out.1.1.m.kind (i1 O7 e)
                  exact kind_ne' hc HY.out.1.2 (by decide) rfl)
                have hB9 := HY.out.1.1.m.b.ch kc (fun q hq e => HY.out.1.1.m.ne (i1 q e) hq rfl)
                have HFIN : Hid ((IT w t M d E' (L1.set j (irp r va vn vc (r.it ++ [on]))) (.slice (some ⟨g, 0, none⟩) n1 cp1) (x9.setCell ⟨g, j * 21 + 18, none⟩ (.slice va vn vc)) ∧ IInv E' (L1.set j (irp r va vn vc (r.it ++ [on])))) ∧ OpvAt (x9.setCell ⟨g, j * 21 + 18, none⟩ (.slice va vn vc)) O7 o ∧ x9.frozen? ⟨g, j * 21 + 18, none⟩ = false ∧ x9.cell? ⟨g, j * 21 + 18, none⟩ = some (.slice la2 ln lc2)) := by
                  have hit : r.it = lnE E o.k := by rw [HR6.out.1.ok r HR6.out.2.2.2.2.2]; exact lnE_eq HR6.out.2.2.2.2.1
                  obtain ⟨_, _, cc, hcc⟩ := hB9.cells g rfl
                  refine ⟨⟨HY.out.1.1.put HR6.out.2.1 HR6.out.2.2.2.1 kc h9 (by rw [HLV.out]; exact f9), ?_⟩, hO9.ch ((Ch.refl (fun q => q = g) x9).set _ _ rfl) (fun e => kind_ne' hO9 hcc (by decide) e), hB9.fz _, ?_⟩
                  · refine HR6.out.1.turn (k := o.k) (b' := irp r va vn vc (r.it ++ [on])) HR6.out.2.2.2.1 HR6.out.2.2.2.2.1 rfl HQ2.out ?_
                    show r.it ++ [on] = _
                    rw [hit]
                  · have h7 := (BL.rng hB9 (j := j) (e := r.b) (by rw [List.getElem?_map, HR6.out.2.2.2.1]; rfl)) 18 (ivS r.b) rfl
                    rw [HLV.out] at h7
                    exact h7
                have hS9 : x9.cell? ⟨O7, 26, none⟩ = some (.int .i64 on) := by rw [hO9.cell 26, HP.out.2]; rfl
                clear h9 g9 f9 hvn kc i1 hO9 hB9 HY
                go_wp2
                replace hS := hS9
                refine ⟨rfl, hK _ _ hS ?_⟩
                clear hK K
                clear hS9
                refine MixH.takes [false, false, false, false, false, false, false, false, false, false, false, true] 2 (by kernel_rfl) (by kernel_rfl) (by decide) (by kernel_rfl) hS (fun K hK => ?_)
                simp only [Mix.pick]
                repeat (go_big_quiet_step (fail))
                refine wpQuiet_nil (hK _ ?_)
                clear hK K
                refine MixH.takes [false, false, false, false, false, false, false, false, false, false, false, false, true] 1 (by kernel_rfl) (by kernel_rfl) (by decide) (by kernel_rfl) hS (fun K hK => ?_)
                simp only [Mix.pick]
                repeat (go_big_quiet_step (fail))
                refine wpQuiet_nil (hK _ ?_)
                clear hK K
                refine MixH.one [false, false, false, false, false, false, false, false, false, false, false, false, false, true] 0 13 _ rfl rfl (by kernel_rfl) (by kernel_rfl) (fun K hK => ?_)
                simp only [Mix.pick]
                have f18 := HFIN.out.2.2.1
                have c18 := HFIN.out.2.2.2
                have hS9 : (x9.setCell ⟨g, j * 21 + 18, none⟩ (.slice va vn vc)).cell? ⟨O7, 26, none⟩ = some (.int .i64 on) := by rw [HFIN.out.2.1.cell 26, HP.out.2]; rfl
                go_wp2_with fail
                replace hS := hS9
                refine ⟨rfl, hK _ _ hS ?_⟩
                clear hK K
                clear hS9 f18 c18
                refine MixH.done (by kernel_rfl) ?_
                clear hS
                have HME : Hid (∃ E2 L2, IT w t M d E2 L2 (.slice (some ⟨g, 0, none⟩) n1 cp1) (x9.setCell ⟨g, j * 21 + 18, none⟩ (.slice va vn vc)) ∧ IInv E2 L2 ∧ L2.length ≤ i + 1) := ⟨E', _, HFIN.out.1.1, HFIN.out.1.2, by rw [List.length_set]; have := HR6.out; have := HVV.out; omega⟩
                clear HFIN
                go_wp2_with fail
                go_meet
                exact ⟨_, rfl, HME⟩
          · have HME : Hid (∃ E2 L2, IT w t M d E2 L2 (.slice la n lc) x5 ∧ IInv E2 L2 ∧ L2.length ≤ i + 1) := ⟨E', L, S5.out.1, HIN.out.same hq, by have := HVV.out.2.2; omega⟩
            clear hq HAK S5
            by_cases h0 : er = 0
            · have q0 : (er == 0) = true := by simpa using h0
              have q2 : (oc == 3) = false := by rw [beq_eq_false_iff_ne]; exact fun h => hno ⟨h0, .inl h⟩
              have q3 : (oc == 4) = false := by rw [beq_eq_false_iff_ne]; exact fun h => hno ⟨h0, .inr h⟩
              clear h0 hno
              go_wp2_with fail
              go_meet
              exact ⟨_, rfl, HME⟩
            · have q0 : (er == 0) = false := by simpa using h0
              clear h0 hno
              go_wp2_with fail
              go_meet
              exact ⟨_, rfl, HME⟩
        · have q1 : (kd == 1) = false := by simpa using h1
          by_cases h2 : kd = 2
          · have q2 : (kd == 2) = true := by simpa using h2
            have QL : Hid _ := S3.out.1.l.learn o.k HOK.out.k o.m HOK.out.m on
            rw [← HP.out.1] at QL
            clear h1 h2
            go_wp2_with (first | (refine wpList_mid_ipr (.tmp 97) rfl O7 3 o.k.V o.k.x rfl S3.out.2.1.ip rfl ?_) | (refine wpList_mid_mac (.tmp 99) rfl O7 20 o.m rfl S3.out.2.1.mac rfl ?_))
            refine Calls.mono QL.out ?_
            rintro rr x4 ⟨lv, l, er, E', rfl, hLR, hLL, hch, hLn, hcb, _⟩
            obtain ⟨ma, mc, hlv⟩ := LnAt.form hLn
            obtain ⟨mn, hmn⟩ : ∃ mn, mn = l.length := ⟨_, rfl⟩
            rw [← hmn] at hlv
            subst hlv
            have S4 : Hid (IT w t M d E' L (.slice la n lc) x4 ∧ OpvAt x4 O7 o ∧ LnAt x4 (.slice ma mn mc) l ∧ mn = l.length) := ⟨S3.out.1.cache hLL (hLR.n2 S3.out.1.e2) hch hcb, S3.out.2.1.ch hch (S3.out.2.1.not S3.out.1.l.ca), hLn, hmn⟩
            have HAK : Hid ((er = 0 ∧ l = lnE E o.k ∧ ∀ q, lnE E' q = if eqP o.k q then [] else lnE E q) ∨ (er ≠ 0 ∧ l = [] ∧ ∀ q, lnE E' q = lnE E q)) := learn_ln S3.out.1.l.ca.dj S3.out.1.l.ok S3.out.1.e2 hLR
            have HIN : Hid (IInv E L) := S3.out.2.2
            clear hLR hLL hch hLn hcb hmn QL S3 c2 c26
            have e2 : x4.cell? ⟨O7, 2, none⟩ = some (.int .i64 pt) := by rw [S4.out.2.1.cell 2, HP.out.1]; rfl
            obtain ⟨la2, lc2, hvv, hBR, _, _, _⟩ := S4.out.1.m.b.cap
            simp only [Value.slice.injEq] at hvv
            obtain ⟨rfl, hnl, rfl⟩ := hvv
            have QP : Hid _ := place_any la n lc (L.map IR.b) o.k.pt o.k.V o.k.x x4 hBR hnl.symm (by have := HVV.out.2.1; omega)
            obtain ⟨fd, hfd⟩ : ∃ fd, fd = plI (L.map IR.b) ⟨o.k.pt, o.k.V, o.k.x⟩ 0 := ⟨_, rfl⟩
            rw [← hfd, ← HP.out.1] at QP
            have HFD : Hid (fd = plI (L.map IR.b) o.k 0 ∧ L.length = n) := ⟨hfd, by rw [hnl, List.length_map]⟩
            clear hfd hBR hnl
            go_wp2_with (first | (refine wpList_mid_ipr (.tmp 109) rfl O7 3 o.k.V o.k.x rfl S4.out.2.1.ip rfl ?_))
            refine Calls.mono QP.out ?_
            rintro rr x5 ⟨rfl, b5⟩
            have S5 : Hid (IT w t M d E' L (.slice la n lc) x5 ∧ LnAt x5 (.slice ma mn mc) l ∧ mn = l.length) := ⟨S4.out.1.below b5, (Ch.ofBelow (S := fun _ => False) b5).owns S4.out.2.2.1 (fun _ _ h => h), S4.out.2.2.2⟩
            clear b5 S4 QP e2
            have HSM : Hid (∀ X b cb (z : List Int), LnAt X (.slice ma mn mc) l → Seg .i64 X b z → l = z → Calls Try.prog 28 #[.slice ma mn mc, .slice b z.length cb] X fun e w' => e = .returned (.bool true) ∧ Below X.heap.size X w') := fun X b cb z h1 h2 h3 => by
              have h4 := sameInts_any ma b mc cb l z X h1.seg h2 (by rcases HAK.out with ⟨_, h8, _⟩ | ⟨_, h8, _⟩ <;> rw [h8]; exact Nat.le_trans (HLE.out o.k) (by decide); decide)
              rw [← S5.out.2.2, decide_eq_true h3] at h4
              exact h4
            rcases plI_cases o.k (L.map IR.b) 0 with ⟨g1, g2⟩ | ⟨j, b, g1, g2, g3⟩
            · obtain rfl : fd = -1 := by rw [HFD.out.1]; exact g1
              have hno : lnE E o.k = [] := by
                refine Decidable.byContradiction fun hc => ?_
                obtain ⟨y, hy, hyk⟩ := HIN.out.co o.k hc
                have h9 := g2 y.b (List.mem_map_of_mem hy)
                have h8 : eqP y.b.k o.k = true := hyk
                rw [h9] at h8; cases h8
              have hl0 : l = [] := by rcases HAK.out with ⟨_, h8, _⟩ | ⟨_, h8, _⟩; rw [h8, hno]; exact h8
              have HI2 : Hid (IInv E' L) := by
                refine HIN.out.same fun q => ?_
                rcases HAK.out with ⟨_, _, hq⟩ | ⟨_, _, hq⟩
                · rw [hq q]
                  by_cases hkq : eqP o.k q = true
                  · rw [if_pos hkq, ← lnE_eq hkq, hno]
                  · rw [if_neg hkq]
                · exact hq q
              have QS : Hid (Calls Try.prog 28 #[.slice ma mn mc, .slice none 0 0] x5 fun e w' => e = .returned (.bool true) ∧ Below x5.heap.size x5 w') := HSM.out x5 none 0 [] S5.out.2.1 (.inl rfl) hl0
              clear g1 g2 hno HFD HAK hl0 HSM
              go_wp2_with fail
              refine Calls.mono QS.out ?_
              rintro rr x6 ⟨rfl, b6⟩
              have HME : Hid (∃ E2 L2, IT w t M d E2 L2 (.slice la n lc) x6 ∧ IInv E2 L2 ∧ L2.length ≤ i + 1) := ⟨E', L, S5.out.1.below b6, HI2.out, by have := HVV.out.2.2; omega⟩
              clear b6 S5 QS HI2
              go_wp2_with fail
              go_meet
              exact ⟨_, rfl, HME⟩
            · obtain rfl : fd = (j : Int) := by rw [HFD.out.1]; simpa using g3
              obtain ⟨r, hr, hrb⟩ : ∃ r, L[j]? = some r ∧ r.b = b := by
                rw [List.getElem?_map] at g1
                cases hh : L[j]? with
                | none => rw [hh] at g1; cases g1
                | some r => rw [hh] at g1; cases g1; exact ⟨r, rfl, rfl⟩
              subst hrb
              have hjn : j < n := by have := (List.getElem?_eq_some_iff.1 hr).1; have := HFD.out.2; omega
              have kj0 : (0 : Int) ≤ (j : Int) := by omega
              have kj1 : (j : Int) < (n : Int) := by omega
              have kj2 : ((j : Int)).toNat = j := by omega
              have HBJ : Hid (L[j]? = some r ∧ eqP r.k o.k = true ∧ r ∈ L) := ⟨hr, g2, List.mem_of_getElem? hr⟩
              clear g1 g2 g3 hr
              go_wp2_with fail
              refine Calls.mono (num_any er x5) ?_
              rintro rr xx ⟨rfl, rfl⟩
              rcases HAK.out with ⟨rfl, hl0, hq⟩ | ⟨her, hl0, hq⟩
              · obtain ⟨g, cp, hgg, _, _, hrg⟩ := S5.out.1.m.b.at j r.b (by rw [List.getElem?_map, HBJ.out.1]; rfl)
                rw [List.length_map, HFD.out.2] at hgg
                simp only [Value.slice.injEq] at hgg
                obtain ⟨rfl, _, rfl⟩ := hgg
                have f18 : x5.frozen? ⟨g, j * 21 + 18, none⟩ = false := S5.out.1.m.b.fz _
                obtain ⟨ln, hln⟩ : ∃ ln, ln = r.it.length := ⟨_, rfl⟩
                obtain ⟨la3, hla3⟩ : ∃ x, x = r.b.la := ⟨_, rfl⟩
                obtain ⟨lc3, hlc3⟩ : ∃ x, x = r.b.lc := ⟨_, rfl⟩
                have hnn : r.b.n = ln := by rw [hln]; exact S5.out.1.m.len HBJ.out.2.2
                have hLV : ivS r.b = .slice la3 ln lc3 := by unfold ivS; rw [hla3, hlc3, hnn]
                have c18 : x5.cell? ⟨g, j * 21 + 18, none⟩ = some (.slice la3 ln lc3) := by have h7 := hrg 18 (ivS r.b) rfl; rw [hLV] at h7; exact h7
                have hit : r.it = lnE E o.k := by rw [HIN.out.ok r HBJ.out.2.2]; exact lnE_eq HBJ.out.2.1
                have hII : IInv E' (L.set j (irp r none 0 0 [])) := HIN.out.turn (k := o.k) (b' := irp r none 0 0 []) HBJ.out.1 HBJ.out.2.1 rfl hq rfl
                have hIT := S5.out.1.clear HFD.out.2 HBJ.out.1
                have k2 : Ch (fun q => q = g) x5 (x5.setCell ⟨g, j * 21 + 18, none⟩ (.slice none 0 0)) := (Ch.refl (fun q => q = g) x5).set _ _ rfl
                obtain ⟨_, _, cc, hcc⟩ := S5.out.1.m.b.cells g rfl
                have hm6 : LnAt (x5.setCell ⟨g, j * 21 + 18, none⟩ (.slice none 0 0)) (.slice ma mn mc) l := k2.owns S5.out.2.1 (fun q hq e => by obtain ⟨c, hc⟩ := S5.out.2.1.kind q hq; exact kind_ne' hc hcc (by decide) e)
                have hi6 : LnAt (x5.setCell ⟨g, j * 21 + 18, none⟩ (.slice none 0 0)) (.slice la3 ln lc3) r.it := by
                  rw [← hLV]
                  exact k2.owns (S5.out.1.m.l r HBJ.out.2.2) (fun q hq e => S5.out.1.m.ne ⟨r, HBJ.out.2.2, hq⟩ rfl e)
                have QS : Hid _ := HSM.out _ la3 lc3 r.it hm6 hi6.seg (hl0.trans hit.symm)
                rw [← hln] at QS
                have HI6 : Hid (∀ X, Below (x5.setCell ⟨g, j * 21 + 18, none⟩ (.slice none 0 0)).heap.size (x5.setCell ⟨g, j * 21 + 18, none⟩ (.slice none 0 0)) X → ∃ E2 L2, IT w t M d E2 L2 (.slice (some ⟨g, 0, none⟩) n lc) X ∧ IInv E2 L2 ∧ L2.length ≤ i + 1) := fun X b => ⟨E', _, hIT.below b, hII, by rw [List.length_set]; have := HVV.out.2.2; omega⟩
                have q0 : ((0 : Int) == 0) = true := rfl
                clear hln hla3 hlc3 hnn hLV hit hII hIT k2 hcc hm6 hi6 hrg hq hl0 HAK S5 HSM
                go_wp2_with fail
                refine Calls.mono QS.out ?_
                rintro rr x6 ⟨rfl, b6⟩
                have HME : Hid (∃ E2 L2, IT w t M d E2 L2 (.slice (some ⟨g, 0, none⟩) n lc) x6 ∧ IInv E2 L2 ∧ L2.length ≤ i + 1) := HI6.out x6 b6
                clear b6 QS HI6
                go_wp2_with fail
                go_meet
                exact ⟨_, rfl, HME⟩
              · have q0 : (er == 0) = false := by simpa using her
                have QS : Hid (Calls Try.prog 28 #[.slice ma mn mc, .slice none 0 0] x5 fun e w' => e = .returned (.bool true) ∧ Below x5.heap.size x5 w') := HSM.out x5 none 0 [] S5.out.2.1 (.inl rfl) hl0
                have HI2 : Hid (IInv E' L) := HIN.out.same hq
                clear her hl0 hq HAK HSM
                go_wp2_with fail
                refine Calls.mono QS.out ?_
                rintro rr x6 ⟨rfl, b6⟩
                have HME : Hid (∃ E2 L2, IT w t M d E2 L2 (.slice la n lc) x6 ∧ IInv E2 L2 ∧ L2.length ≤ i + 1) := ⟨E', L, S5.out.1.below b6, HI2.out, by have := HVV.out.2.2; omega⟩
                clear b6 S5 QS HI2
                go_wp2_with fail
                go_meet
                exact ⟨_, rfl, HME⟩
          · have q2 : (kd == 2) = false := by simpa using h2
            by_cases h3 : kd = 3
            · have q3 : (kd == 3) = true := by simpa using h3
              have QT : Hid _ := S3.out.1.l.tick
              clear h1 h2 h3
              go_wp2_with fail
              refine Calls.mono QT.out ?_
              rintro rr x4 ⟨av, lv, Kd, rfl, hp, hs, _, hG, hLL, hch⟩
              have hIT := S3.out.1.cache hLL (tick_n2 S3.out.1.e2) hch (fun q hq => .inl (tick_cb q hq))
              have hlen : L.length = n := by obtain ⟨a1, a2, hvv⟩ := hIT.m.b.form; simp only [Value.slice.injEq, List.length_map] at hvv; exact hvv.2.1.symm
              have hsd := lost_side S3.out.1.l.ca.dj S3.out.1.l.ca.wf S3.out.2.2 hp hs
              have hgl : (lostL d (E.map (ag1 d)) Kd).length ≤ 100000 := by
                rw [hsd]
                have h9 := flat_le (iG (E.filterMap (tickE d))) L
                have h8 := wait_book S3.out.1.l.ca.dj S3.out.2.2
                have h7 := waitN_le S3.out.1.l.ca.dj (fun s hs => hs) 64 (S3.out.1.l.ok.lns S3.out.1.l.cf)
                have h6 := S3.out.1.l.ok.len S3.out.1.l.cf
                omega
              have QD : Hid _ := lost_any L la n lc hIT hlen (by have := HVV.out.2.1; omega) S3.out.2.2.wf (fun r hr => by rw [S3.out.2.2.ok r hr]; exact HLE.out r.k) _ lv _ hG hgl hsd
              have HI2 : Hid (IInv (E.filterMap (tickE d)) (L.map (iB (E.filterMap (tickE d))))) := lost_inv S3.out.1.l.ca.dj S3.out.2.2
              clear hp hs hG hLL hch QT S3 c2 c26 hIT hlen hsd hgl
              go_wp2_with fail
              refine Calls.mono QD.out ?_
              rintro rr x5 ⟨rfl, hI5⟩
              have HME : Hid (∃ E2 L2, IT w t M d E2 L2 (.slice la n lc) x5 ∧ IInv E2 L2 ∧ L2.length ≤ i + 1) := ⟨_, _, hI5, HI2.out, by rw [List.length_map]; have := HVV.out.2.2; omega⟩
              clear hI5 QD HI2
              go_wp2_with fail
              go_meet
              exact ⟨_, rfl, HME⟩
            · have q3 : (kd == 3) = false := by simpa using h3
              have HME : Hid (∃ E2 L2, IT w t M d E2 L2 (.slice la n lc) x3 ∧ IInv E2 L2 ∧ L2.length ≤ i + 1) := ⟨E, L, S3.out.1, S3.out.2.2, by have := HVV.out.2.2; omega⟩
              clear h1 h2 h3 S3
              go_wp2_with fail
              go_meet
              exact ⟨_, rfl, HME⟩
      case rest =>
        obtain ⟨v', rfl, HME⟩ := hcut
        clear S3 c2 c26
        obtain ⟨E2, L2, hIT, hII, hl2⟩ := HME.out
        obtain ⟨la2, lc2, hv2⟩ := hIT.m.b.form
        rw [List.length_map] at hv2
        obtain ⟨n2, hn2⟩ : ∃ n, n = L2.length := ⟨_, rfl⟩
        rw [← hn2] at hv2
        subst hv2
        have ST : Hid (IT w t M d E2 L2 (.slice la2 n2 lc2) wc ∧ IInv E2 L2 ∧ L2.length ≤ i + 1 ∧ n2 ≤ 1048577) := ⟨hIT, hII, hl2, by have := HVV.out; have := HS.out.2.2; have := HLT.out; omega⟩
        have QW : Hid _ := hIT.l.waiting
        obtain ⟨wn, hwn⟩ : ∃ wn, wn = waitN E2 := ⟨_, rfl⟩
        rw [← hwn] at QW
        clear hIT hII hl2 hn2 HME
        go_wp2_with fail
        refine Calls.mono QW.out ?_
        rintro rr y1 ⟨rfl, _, b1⟩
        have ST1 : Hid (IT w t M d E2 L2 (.slice la2 n2 lc2) y1) := ST.out.1.below b1
        have QV : Hid _ := ST1.out.waiting ST.out.2.1 rfl ST.out.2.2.2
        rw [← hwn] at QV
        clear b1 QW hwn
        go_wp2_with fail
        refine Calls.mono QV.out ?_
        rintro rr y2 ⟨rfl, b2⟩
        have ST2 : Hid (∃ E L, IT w t M d E L (.slice la2 n2 lc2) y2 ∧ IInv E L ∧ L.length ≤ i + 1) := ⟨E2, L2, ST1.out.below b2, ST.out.2.1, ST.out.2.2.1⟩
        have qe : (((wn : Nat) : Int) != ((wn : Nat) : Int)) = false := by simp
        clear b2 QV ST1 ST
        go_wp2_with fail
        go_roundw
        case rel => exact ⟨_, i + 1, rfl, by first | rfl | go_num, by have := HLT.out; omega, ST2⟩
        case measure => have := HLT.out; simp [intOf]; omega
    · have hni : ¬ ((i : Int) < (len : Int)) := by omega
      have HE : Hid (Below w.heap.size w wr) := by obtain ⟨E, L, hIT, _⟩ := HST.out; exact hIT.l.bel
      clear HST
      go_wp2_with fail
      go_ret
      exact ⟨rfl, HE.out⟩
end Go.Proofs.Ytialefdojeddjaa
