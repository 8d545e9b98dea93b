/-
  The walk of HoleLent.
-/
import Derived.Test.YtcoaghcmbhogjaaWLn2
import Derived.Lib.SlBytesConst
import Derived.Test.YtcoaghcmbhogjaaRows
namespace Go.Proofs.Ytcoaghcmbhogjaa
open Go.RowKit Go.Maps H11
theorem seg_abc (w : World) (t : TypeId) (f : Nat × Nat) : Seg .u8 (w.alloc (.cells #[.int .u8 97, .int .u8 98, .int .u8 99] t f)) (some ⟨w.heap.size, 0, none⟩) (toI [97, 98, 99]) := by
  have key : ∀ l : List Nat, Seg .u8 (w.alloc (.cells ((l.map (fun x => Value.int .u8 (x : Nat))).toArray) t f)) (some ⟨w.heap.size, 0, none⟩) (toI l) := by
    intro l
    refine .inr ⟨_, _, rfl, fun i hi => ?_⟩
    have hi' : i < l.length := by simpa [toI] using hi
    have hn := heap_alloc_new w (.cells ((l.map (fun x => Value.int .u8 (x : Nat))).toArray) t f)
    rw [Nat.zero_add]
    unfold World.cell?
    simp only [hn]
    simp [toI, List.getD, hi']
  exact key [97, 98, 99]
theorem own_sg {w : World} {b n c : Nat} {a : Option Addr} {l : List Nat} (h : w.ownsRow b 5 1 (.slice a n c) n ((toI l).map (Value.int .u8))) : Seg .u8 w a (toI l) := by
  obtain ⟨a', c', q1, hsg, _⟩ := owns_seg h (k := .u8)
  simp only [Value.slice.injEq, true_and] at q1
  obtain ⟨rfl, rfl⟩ := q1
  exact hsg
set_option maxRecDepth 100000 in
set_option maxHeartbeats 51200000 in
theorem holeLent.walk (W : World) (a0 : Int) (_ : (Lit.int .i64 a0).wf = true) (a : Option Addr) (len cap : Nat) (ops : List PcV) (hl : ops.length = len) (hs : PcsU W a ops) (_ : len ≤ 1048576) :
    Calls Try.prog 9 #[.int .i64 a0, .slice a len cap] W fun e W' => e = .returned (.bool true) ∧ Below W.heap.size W W' := by
  obtain ⟨m, hm, hm1, hm2⟩ : ∃ m : Nat, (m : Int) = (if a0 < 8 ∨ 65535 < a0 then 64 else a0) ∧ 1 ≤ m ∧ m ≤ 65535 := by
    by_cases h : a0 < 8 ∨ 65535 < a0
    · exact ⟨64, by rw [if_pos h]; rfl, by omega, by omega⟩
    · exact ⟨a0.toNat, by rw [if_neg h]; omega, by omega, by omega⟩
  have QM : Hid _ := made_yes W m hm1 hm2 none none
  have QM2 : Hid (∀ A : World, _) := fun A => made_yes A 8 (by omega) (by omega) none none
  have HPS : Hid (PcsU W a ops) := hs
  have HLN : Hid (ops.length = len) := hl
  clear hl hs hm1 hm2
  go_enter Try.func9, Try.ntmps9
  go_upto_region 1 with fail
  go_cut [36] (fun x wx => x = .bool (decide (a0 < 8 ∨ 65535 < a0)) ∧ W = wx)
  case first =>
    by_cases h1 : a0 < 8
    · have HD : Hid (decide (a0 < 8 ∨ 65535 < a0) = true) := decide_eq_true (.inl h1)
      go_wp2
      go_meet
      exact ⟨by rw [HD.out], rfl⟩
    · by_cases h2 : (65535 : Int) < a0
      · have HD : Hid (decide (a0 < 8 ∨ 65535 < a0) = true) := decide_eq_true (.inr h2)
        go_wp2
        go_meet
        exact ⟨by rw [HD.out], rfl⟩
      · have HD : Hid (decide (a0 < 8 ∨ 65535 < a0) = false) := decide_eq_false (by omega)
        go_wp2
        go_meet
        exact ⟨by rw [HD.out], rfl⟩
  case rest =>
    obtain ⟨rfl, rfl⟩ := hcut
    go_upto_if 36 with fail
    go_cut [0] (fun x wx => x = .int .i64 (m : Int) ∧ W = wx)
    case first =>
      by_cases h0 : a0 < 8 ∨ 65535 < a0
      · rw [if_pos h0] at hm
        rw [decide_eq_true h0]
        have HM4 : Hid ((m : Int) = 64) := hm
        clear hm h0
        go_wp2
        go_meet
        exact ⟨by rw [HM4.out], rfl⟩
      · rw [if_neg h0] at hm
        rw [decide_eq_false h0]
        have HM4 : Hid ((m : Int) = a0) := hm
        clear h0 hm
        go_wp2
        go_meet
        exact ⟨by rw [HM4.out], rfl⟩
    case rest =>
      obtain ⟨rfl, rfl⟩ := hcut
      clear hm
      go_wp2_with fail
      refine Calls.mono QM.out ?_
      rintro e0 w1 ⟨e1, rfl, he1, hes, hlo, hb1⟩
      have H1 : Hid (EOk w1 e1 ∧ e1.s.tk.length ≤ 0 ∧ (∀ x, EB e1 x → W.heap.size ≤ x) ∧ Below W.heap.size W w1) := ⟨he1, by rw [hes]; simp [nw], hlo, hb1⟩
      unfold pv
      clear he1 hes hlo hb1 QM
      go_upto_region 4 with fail
      obtain ⟨P5, hP5⟩ : ∃ P5, P5 = w1.heap.size := ⟨_, rfl⟩
      obtain ⟨w2, hw2⟩ : ∃ w2, w2 = w1.alloc (.cells #[.pointer (some ⟨e1.H, 0, none⟩), .pointer (some ⟨e1.R, 0, none⟩)] 56) := ⟨_, rfl⟩
      have hP5at : PrAt w2 P5 #[.pointer (some ⟨e1.H, 0, none⟩), .pointer (some ⟨e1.R, 0, none⟩)] := by rw [hw2, hP5]; exact PrAt_new _ _
      have HBw2 : Hid (Below w1.heap.size w1 w2 ∧ w1.heap.size = P5 ∧ P5 < w2.heap.size) := ⟨by rw [hw2]; exact (Below.refl _ _).alloc (Nat.le_refl _) _, hP5.symm, by rw [hw2, hP5]; simp⟩
      rw [← hP5, ← hw2]
      clear hP5 hw2
      go_wp2_with fail
      refine Calls.mono (QM2.out w2) ?_
      rintro e9 w3 ⟨e2, rfl, he2, hes2, hlo2, hb3⟩
      have H3 : Hid (EOk w3 e2 ∧ e2.s = nw 8 ∧ (∀ x, EB e2 x → w2.heap.size ≤ x) ∧ Below w2.heap.size w2 w3) := ⟨he2, hes2, hlo2, hb3⟩
      have hP3 := hP5at.below hb3
      unfold pv
      clear he2 hes2 hlo2 hb3 QM2 hP5at
      go_upto_region 5 with fail
      obtain ⟨P7, hP7⟩ : ∃ P7, P7 = w3.heap.size := ⟨_, rfl⟩
      obtain ⟨w4, hw4⟩ : ∃ w4, w4 = w3.alloc (.cells #[.pointer (some ⟨e2.H, 0, none⟩), .pointer (some ⟨e2.R, 0, none⟩)] 56) := ⟨_, rfl⟩
      have hP7at : PrAt w4 P7 #[.pointer (some ⟨e2.H, 0, none⟩), .pointer (some ⟨e2.R, 0, none⟩)] := by rw [hw4, hP7]; exact PrAt_new _ _
      have HBw4 : Hid (Below w3.heap.size w3 w4 ∧ w3.heap.size = P7 ∧ P7 < w4.heap.size) := ⟨by rw [hw4]; exact (Below.refl _ _).alloc (Nat.le_refl _) _, hP7.symm, by rw [hw4, hP7]; simp⟩
      rw [← hP7, ← hw4]
      clear hP7 hw4
      have H4 : Hid (HLn W P5 P7 e1 e2 w4) := by
        have g := H3.out
        have h2 := HBw2.out
        have h4 := HBw4.out
        have hW2 := H1.out.2.2.2.trans (h2.1.mono H1.out.2.2.2.size)
        have hW3 := hW2.trans (g.2.2.2.mono hW2.size)
        have l1 : ∀ x, EB e1 x → x < P5 := fun x hx => by rw [← h2.2.1]; exact H1.out.1.lt x hx
        have l2 : ∀ x, EB e2 x → x < P7 := fun x hx => by rw [← h4.2.1]; exact g.1.lt x hx
        have l3 := g.2.2.2.size
        have l5 := H1.out.2.2.2.size
        refine ⟨hW3.trans (h4.1.mono hW3.size), ((H1.out.1.below h2.1).below g.2.2.2).below h4.1, g.1.below h4.1, H1.out.2.2.1, fun x hx => Nat.le_trans hW2.size (g.2.2.1 x hx), fun x hx q => ?_, hP3.below h4.1, hP7at, ⟨by omega, fun q => by have := l1 _ q; omega, fun q => by have := g.2.2.1 _ q; omega⟩, ⟨by omega, fun q => by have := l1 _ q; omega, fun q => by have := l2 _ q; omega⟩⟩
        have h8 := l1 x hx
        have h9 := g.2.2.1 x q
        omega
      have HS2 : Hid (e2.s = nw 8) := H3.out.2.1
      have HS1 : Hid (e1.s.tk.length ≤ 0) := H1.out.2.1
      have c5 : w4.cell? ⟨P5, 0, none⟩ = some (.pointer (some ⟨e1.H, 0, none⟩)) := (H4.out.p5.cell 0).trans rfl
      have c7 : w4.cell? ⟨P7, 0, none⟩ = some (.pointer (some ⟨e2.H, 0, none⟩)) := (H4.out.p7.cell 0).trans rfl
      clear H1 H3 HBw2 HBw4 hP3
      have kc := fun (w : World) (C : Array Value) (n c : Nat) => Lib.run_convert_bytes_const (P := Try.prog) w 22 5 C n c Try.underlying22 Try.underlying5
      obtain ⟨D, hD⟩ : ∃ D, D = w4.heap.size := ⟨_, rfl⟩
      obtain ⟨wD, hwD⟩ : ∃ wD, wD = w4.alloc (.cells #[.int .u8 97, .int .u8 98, .int .u8 99] 5 (3, 4)) := ⟨_, rfl⟩
      have hbD : Below w4.heap.size w4 wD := by rw [hwD]; exact (Below.refl _ _).alloc (Nat.le_refl _) _
      have sg : Seg .u8 wD (some ⟨D, 0, none⟩) (toI [97, 98, 99]) := by rw [hwD, hD]; exact seg_abc w4 5 (3, 4)
      have HWD : Hid (w4.alloc (.cells #[.int .u8 97, .int .u8 98, .int .u8 99] 5 (3, 4)) = wD ∧ w4.heap.size = D) := ⟨hwD.symm, hD.symm⟩
      have H5 : Hid (HLn W P5 P7 e1 e2 wD) := H4.out.below hbD
      have QP : Hid _ := put_any wD e2 H5.out.ok2 (by rw [HS2.out]; simp [nw]) 0 [97, 98, 99] (some ⟨D, 0, none⟩) 3 3 rfl (by omega) (by omega) false (by decide) sg (fun x _ hx q => by
        simp only [Option.some.injEq] at hx
        rw [← hx] at q
        have q' : EB e2 D := q
        have := H4.out.ok2.lt D q'
        omega)
      unfold pv at QP
      clear hD hwD hbD sg
      go_wp2_with (first | (refine wpList_load_Pr (.tmp 7) rfl P7 _ rfl rfl hP7at rfl ?_))
      rw [HWD.out.1, HWD.out.2]
      clear kc HWD hP7at c5 c7 H4
      refine Calls.mono QP.out ?_
      rintro ex w5 ⟨rfl, hm5⟩
      have HL : Hid (∃ e ez, HLn W P5 P7 e ez w5 ∧ e.s.tk.length ≤ 0 ∧ ez.s = pS (nw 8) 0 [97, 98, 99] false) := by
        obtain ⟨ez, z1, z2, _⟩ := H5.out.put2 hm5
        exact ⟨e1, ez, z1, HS1.out, by rw [z2, HS2.out]⟩
      clear QP hm5 H5 HS1 HS2
      go_wp2
      go_loopw [9] (fun ix wr => ∃ k : Nat, (k ≤ len ∧ k ≤ 120) ∧ ix = .int .i64 (k : Int) ∧ Hid (∃ e ez, HLn W P5 P7 e ez wr ∧ e.s.tk.length ≤ k ∧ ez.s = pS (nw 8) 0 [97, 98, 99] false)) (fun ix _ => len - (intOf ix).toNat)
      case atStart => exact ⟨0, by omega, rfl, HL⟩
      case round =>
        obtain ⟨k, hk, rfl, HH⟩ := hrel
        clear HL
        obtain ⟨e, ez, hh, hk1, hzs⟩ := HH.out
        have H0 : Hid (HLn W P5 P7 e ez wr) := hh
        have HTK : Hid (e.s.tk.length ≤ k) := hk1
        have HZS : Hid (ez.s = pS (nw 8) 0 [97, 98, 99] false) := hzs
        clear hh hk1 hzs HH
        by_cases hge : len ≤ k ∨ 120 ≤ k
        · by_cases h1 : len ≤ k
          · have d1 : ¬ (k : Int) < (len : Int) := by omega
            clear hge h1
            as_aux_lemma =>
              obtain ⟨B, hB⟩ : ∃ B, B = wr.heap.size := ⟨_, rfl⟩
              obtain ⟨wh, hwh⟩ : ∃ wh, wh = decide (0 < e.s.en ∧ e.s.gp = []) := ⟨_, rfl⟩
              obtain ⟨bs, hbs⟩ : ∃ bs, bs = bz e.s wh := ⟨_, rfl⟩
              obtain ⟨G, hG⟩ : ∃ G, G = e.s.gp.length := ⟨_, rfl⟩
              have hi := H0.out.ok1.inv
              have hz : bz ez.s true = [97, 98, 99] := by rw [HZS.out]; rfl
              have HS0 : Hid (LS W B P5 P7 e ez 0 (.slice none 0 0) (.slice none 0 0) [] [] wr) := by rw [hB]; exact LS.start H0.out
              have hG5 : G ≤ 65535 := by rw [hG]; exact (s_len_of hi).1
              have HBS : Hid (bs.length ≤ 65535) := by
                show bs.length ≤ 65535
                rw [hbs]; cases wh
                · simp [bz]
                · exact (s_len_of hi).2
              have QB : Hid (∀ A : World, HLn W P5 P7 e ez A → Calls Try.prog 14 #[.pointer (some ⟨e.H, 0, none⟩)] A fun r w' => ∃ ua n uc, r = .returned (.tuple #[.slice ua n uc, .bool wh]) ∧ (bs).length = n ∧ w'.ownsRow A.heap.size 5 1 (.slice ua n uc) n ((toI (bs)).map (Value.int .u8)) ∧ Below A.heap.size A w') := fun A hA => by rw [hbs]; exact bytes_any A e.H e.s e.v hA.ok1.h (s_len_of hi).2 wh hwh
              have QR : Hid (∀ A : World, HLn W P5 P7 e ez A → Calls Try.prog 28 #[.pointer (some ⟨e.R, 0, none⟩)] A fun r w' => ∃ ua n uc, r = .returned (.tuple #[.slice ua n uc, .bool wh]) ∧ (bs).length = n ∧ w'.ownsRow A.heap.size 5 1 (.slice ua n uc) n ((toI (bs)).map (Value.int .u8)) ∧ Below A.heap.size A w') := fun A hA => by rw [hbs]; exact bytesR_any A e.R e.s e.u hA.ok1.r hi wh hwh
              have QZ : Hid (∀ A : World, HLn W P5 P7 e ez A → Calls Try.prog 14 #[.pointer (some ⟨ez.H, 0, none⟩)] A fun r w' => ∃ ua n uc, r = .returned (.tuple #[.slice ua n uc, .bool true]) ∧ ([97, 98, 99]).length = n ∧ w'.ownsRow A.heap.size 5 1 (.slice ua n uc) n ((toI ([97, 98, 99])).map (Value.int .u8)) ∧ Below A.heap.size A w') := fun A hA => by rw [← hz]; exact bytes_any A ez.H ez.s ez.v hA.ok2.h (s_len_of hA.ok2.inv).2 true (by rw [HZS.out]; rfl)
              have QG : Hid (∀ A : World, HLn W P5 P7 e ez A → Calls Try.prog 17 #[.pointer (some ⟨e.H, 0, none⟩)] A fun r w' => ∃ ga gc, r = .returned (.slice ga G gc) ∧ w'.ownsRow A.heap.size 45 2 (.slice ga G gc) G (gC e.s.gp) ∧ Below A.heap.size A w') := fun A hA => (gaps_any A e.H e.s e.v hA.ok1.h (s_len_of hi).1).mono (by
                rintro r w' ⟨u, rfl, h1, h2⟩
                obtain ⟨ga, gc, rfl⟩ := owns_shape h1
                rw [← hG] at h1 ⊢
                exact ⟨ga, gc, rfl, h1, h2⟩)
              have QGR : Hid (∀ A : World, HLn W P5 P7 e ez A → Calls Try.prog 29 #[.pointer (some ⟨e.R, 0, none⟩)] A fun r w' => ∃ ga gc, r = .returned (.slice ga G gc) ∧ w'.ownsRow A.heap.size 45 2 (.slice ga G gc) G (gC e.s.gp) ∧ Below A.heap.size A w') := fun A hA => (gapsR_any A e.R e.s e.u hA.ok1.r hi).mono (by
                rintro r w' ⟨u, rfl, h1, h2⟩
                obtain ⟨ga, gc, rfl⟩ := owns_shape h1
                rw [← hG] at h1 ⊢
                exact ⟨ga, gc, rfl, h1, h2⟩)
              have HGG : Hid (e.s.gp.length = G) := hG.symm
              clear hB hwh hbs hG hi hz H0 HZS HTK
              go_wp2
              go_loopw [10, 11, 12] (fun lx gx ix wr => ∃ (k : Nat) (ps : List Ap.Part) (gs : List Value) (la ga : Option Addr) (lc gc : Nat), k ≤ 2 ∧ lx = .slice la (3 * k) lc ∧ gx = .slice ga k gc ∧ ix = .int .i64 (k : Int) ∧ Hid (LS W B P5 P7 e ez k (.slice la (3 * k) lc) (.slice ga k gc) ps gs wr)) (fun _ _ ix _ => 2 - (intOf ix).toNat)
              case atStart => exact ⟨0, [], [], none, none, 0, 0, by omega, rfl, rfl, rfl, HS0⟩
              case round =>
                obtain ⟨k, ps, gs, la, ga, lc, gc, hk3, rfl, rfl, rfl, HK⟩ := hrel
                clear HS0
                by_cases hge : 2 ≤ k
                · have d3 : ¬ (k : Int) < 2 := by omega
                  clear hge
                  as_aux_lemma =>
                    have hlen : ps.length = 3 * k := by have := HK.out.lr.1; simpa using this
                    have QA : Hid _ := Ap.fam_apart HK.out.fam HK.out.lr hlen (by omega) (by omega) HK.out.hB.2
                    clear hlen QB QR QZ QG QGR
                    go_wp2_with fail
                    refine Calls.mono QA.out ?_
                    rintro r10 w15 ⟨rfl, hc15⟩
                    obtain rfl : k = 2 := by omega
                    obtain ⟨gb, gl, hga, hgc, hsh, hlr⟩ := LS.holes HK.out hc15
                    subst hga
                    rw [HGG.out] at hsh hlr
                    have HSH : Hid (∀ j, j < 2 → ∃ a c, gl j = Value.slice a G c) := hsh
                    have HLR : Hid (LR W B P5 P7 e ez gb G gl (fun j => if j < 0 then rep G (mk2 j) else gC e.s.gp) w15) := by
                      rw [show (fun j => if j < 0 then rep G (mk2 j) else gC e.s.gp) = (fun _ => gC e.s.gp) from funext (fun j => by simp)]
                      exact hlr
                    have HGL : Hid ((gC e.s.gp).length = G * 2) := by show _ = _; rw [gC_len, HGG.out]
                    clear hsh hlr hc15 HK QA d1 d3 HGG HBS hk3
                    go_wp2
                    go_loopw [23] (fun ix wr => ∃ i : Nat, i ≤ 2 ∧ ix = .int .i64 (i : Int) ∧ Hid (LR W B P5 P7 e ez gb G gl (fun j => if j < i then rep G (mk2 j) else gC e.s.gp) wr)) (fun ix _ => 2 - (intOf ix).toNat)
                    case atStart => exact ⟨0, by omega, rfl, HLR⟩
                    case round =>
                      obtain ⟨i, hi2, rfl, HI⟩ := hrel
                      clear HLR
                      by_cases hge : 2 ≤ i
                      · have d4 : ¬ (i : Int) < 2 := by omega
                        have HM : Hid (LR W B P5 P7 e ez gb G gl (fun j => rep G (mk2 j)) wr) := HI.out.congr (fun j hj => by rw [if_pos (by omega)])
                        clear hge HI HGL
                        as_aux_lemma =>
                          obtain ⟨B3, hB3⟩ : ∃ B3, B3 = wr.heap.size := ⟨_, rfl⟩
                          have HL0 : Hid (LL W B P5 P7 e ez gb G B3 gl 0 gl wr ∧ wr.ownsRow B3 43 1 (.slice none 0 0) 0 ((List.range 0).map gl)) := ⟨by rw [hB3]; exact LL.start HM.out gl, World.ownsRow_nil _ _ _ _⟩
                          clear hB3 HM
                          go_wp2
                          go_loopw [22, 25] (fun lx ix wr => ∃ (i : Nat) (Lg : Nat → Value) (la : Option Addr) (lc : Nat), i ≤ 2 ∧ lx = .slice la i lc ∧ ix = .int .i64 (i : Int) ∧ Hid (LL W B P5 P7 e ez gb G B3 gl i Lg wr ∧ wr.ownsRow B3 43 1 (.slice la i lc) i ((List.range i).map Lg))) (fun _ ix _ => 2 - (intOf ix).toNat)
                          case atStart => exact ⟨0, gl, none, 0, by omega, rfl, rfl, HL0⟩
                          case round =>
                            clear hi2 d4
                            obtain ⟨i, Lg, la, lc, hi2, rfl, rfl, HI⟩ := hrel
                            clear HL0
                            by_cases hge : 2 ≤ i
                            · have d4 : ¬ (i : Int) < 2 := by omega
                              have d6 : i = 2 := by omega
                              clear hge
                              as_aux_lemma =>
                                obtain ⟨wf, hwf⟩ : ∃ wf, wf = wr := ⟨_, rfl⟩
                                rw [← hwf] at HI ⊢
                                obtain ⟨lb, hla, hlb⟩ := list2 HI.out.2 d6
                                subst hla
                                obtain ⟨N, hN⟩ : ∃ N, N = G + (G + 70) := ⟨_, rfl⟩
                                have hNl : N ≤ 1000000 := by omega
                                have HLO : Hid (∀ j, j < 2 → ∃ a c, (wf.cell? ⟨lb, j, none⟩ = some (.slice a N c)) ∧ ∀ k, k < N → ∃ g, a = some ⟨g, 0, none⟩ ∧ wf.cell? ⟨g, k * 2, none⟩ = some (.int .i64 (-1 - (j : Int))) ∧ wf.cell? ⟨g, k * 2 + 1, none⟩ = some (.int .i64 (-1 - (j : Int)))) := fun j hj => by
                                  obtain ⟨a, c, h1, h2⟩ := row_mk (HI.out.1.lon j (by omega))
                                  rw [← hN] at h1 h2
                                  exact ⟨a, c, by rw [← h1]; exact hlb j hj, h2⟩
                                have HSO : Hid (∀ j, j < 2 → ∃ a c, (wf.cell? ⟨gb, j, none⟩ = some (.slice a G c)) ∧ ∀ k, k < G → ∃ g, a = some ⟨g, 0, none⟩ ∧ wf.cell? ⟨g, k * 2, none⟩ = some (.int .i64 (-1 - (j : Int))) ∧ wf.cell? ⟨g, k * 2 + 1, none⟩ = some (.int .i64 (-1 - (j : Int)))) := fun j hj => by
                                  obtain ⟨a, c, h1, h2⟩ := row_mk (HI.out.1.lr.row j hj)
                                  exact ⟨a, c, by rw [← h1]; exact HI.out.1.lr.c j hj, h2⟩
                                have HH : Hid (HLn W P5 P7 e ez wf) := HI.out.1.lr.ln
                                clear hwf HI hlb hN HSH
                                go_wp2_with fail
                                subst d6
                                clear d4 hi2
                                go_loop [28] (fun ix => ∃ i : Nat, i ≤ 2 ∧ ix = .int .i64 (i : Int)) (fun ix => 2 - (intOf ix).toNat)
                                case atStart => exact ⟨0, by omega, rfl⟩
                                case round =>
                                  obtain ⟨i, hi2, rfl⟩ := hrel
                                  by_cases hge : 2 ≤ i
                                  · have d4 : ¬ (i : Int) < 2 := by omega
                                    clear hge HLO HSO hNl
                                    as_aux_lemma =>
                                      go_upto_region 54 with fail
                                      obtain ⟨BK, hBK⟩ : ∃ BK, BK = wf.heap.size := ⟨_, rfl⟩
                                      obtain ⟨w20, hw20⟩ : ∃ w20, w20 = wf.alloc (.cells #[.slice none 0 0, .slice none 0 0, .slice none 0 0, .slice none 0 0] 65) := ⟨_, rfl⟩
                                      have HA0 : Hid (LA W P5 P7 e ez BK 0 bz0 w20) := by rw [hBK]; exact LA.start HH.out hw20
                                      rw [← hBK, ← hw20]
                                      clear hBK hw20 HH
                                      have hq0 := HA0.out.ln.p5
                                      have QK0 : Hid _ := asked_any w20 e HA0.out.ln.ok1 4 BK bz0 HA0.out.bk HA0.out.hE HA0.out.hG (by have := HA0.out.le; omega) (by have := HA0.out.lg; omega)
                                      unfold pv at QK0
                                      unfold prv at hq0
                                      go_wp2_with (first | (refine wpList_load_Pr (.tmp 5) rfl P5 _ rfl rfl hq0 rfl ?_))
                                      refine Calls.mono QK0.out ?_
                                      rintro rk0 w21 ⟨rfl, hk0⟩
                                      obtain ⟨b1, hb1⟩ := HA0.out.ask hk0
                                      have HA1 : Hid (LA W P5 P7 e ez BK 1 b1 w21) := hb1
                                      clear hq0 QK0 hk0 hb1 HA0
                                      have hq1 := HA1.out.ln.p5
                                      have QK1 : Hid _ := asked_any w21 e HA1.out.ln.ok1 2 BK b1 HA1.out.bk HA1.out.hE HA1.out.hG (by have := HA1.out.le; omega) (by have := HA1.out.lg; omega)
                                      unfold pv at QK1
                                      unfold prv at hq1
                                      go_wp2_with (first | (refine wpList_load_Pr (.tmp 5) rfl P5 _ rfl rfl hq1 rfl ?_))
                                      refine Calls.mono QK1.out ?_
                                      rintro rk1 w22 ⟨rfl, hk1⟩
                                      obtain ⟨b2, hb2⟩ := HA1.out.ask hk1
                                      have HA2 : Hid (LA W P5 P7 e ez BK 2 b2 w22) := hb2
                                      clear hq1 QK1 hk1 hb2 HA1
                                      have hq2 := HA2.out.ln.p5
                                      have QK2 : Hid _ := asked_any w22 e HA2.out.ln.ok1 3 BK b2 HA2.out.bk HA2.out.hE HA2.out.hG (by have := HA2.out.le; omega) (by have := HA2.out.lg; omega)
                                      unfold pv at QK2
                                      unfold prv at hq2
                                      go_wp2_with (first | (refine wpList_load_Pr (.tmp 5) rfl P5 _ rfl rfl hq2 rfl ?_))
                                      refine Calls.mono QK2.out ?_
                                      rintro rk2 w23 ⟨rfl, hk2⟩
                                      obtain ⟨b3, hb3⟩ := HA2.out.ask hk2
                                      have HA3 : Hid (LA W P5 P7 e ez BK 3 b3 w23) := hb3
                                      clear hq2 QK2 hk2 hb3 HA2
                                      have hq3 := HA3.out.ln.p7
                                      have QK3 : Hid _ := asked_any w23 ez HA3.out.ln.ok2 4 BK b3 HA3.out.bk HA3.out.hE HA3.out.hG (by have := HA3.out.le; omega) (by have := HA3.out.lg; omega)
                                      unfold pv at QK3
                                      unfold prv at hq3
                                      go_wp2_with (first | (refine wpList_load_Pr (.tmp 7) rfl P7 _ rfl rfl hq3 rfl ?_))
                                      refine Calls.mono QK3.out ?_
                                      rintro rk3 w24 ⟨rfl, hk3⟩
                                      obtain ⟨b4, hb4⟩ := HA3.out.ask hk3
                                      have HA4 : Hid (LA W P5 P7 e ez BK 4 b4 w24) := hb4
                                      clear hq3 QK3 hk3 hb4 HA3
                                      go_wp2
                                      go_ret
                                      exact ⟨rfl, HA4.out.ln.bel⟩
                                  · have d4 : (i : Int) < 2 := by omega
                                    have hi : i < 2 := by omega
                                    clear hge
                                    obtain ⟨m, hm⟩ : ∃ m : Int, m = -1 - (i : Int) := ⟨_, rfl⟩
                                    have wu : IntKind.i64.wrap (-1 - (i : Int)) = m := by rw [IntKind.wrap_i64]; omega
                                    obtain ⟨a8, c8, cl, hl8⟩ := HLO.out i hi
                                    obtain ⟨ai, ci, cs, hs8⟩ := HSO.out i hi
                                    rw [← hm] at hl8 hs8
                                    have HL8 : Hid _ := hl8
                                    have HS8 : Hid _ := hs8
                                    have q2 : (Op.equalIn 10000 45 (.agg #[.int .i64 m, .int .i64 m]) (.agg #[.int .i64 m, .int .i64 m])).run Try.prog wf = .ok true wf := by have := eq2 m m m m wf 9998; simpa using this
                                    clear hm hl8 hs8 HLO HSO HH
                                    as_aux_lemma =>
                                      go_wp2
                                      go_loop [29] (fun kx => ∃ k : Nat, k ≤ N ∧ kx = .int .i64 (k : Int)) (fun kx => N - (intOf kx).toNat)
                                      case atStart => exact ⟨0, Nat.zero_le _, rfl⟩
                                      case round =>
                                        obtain ⟨k, hk, rfl⟩ := hrel
                                        by_cases hge : N ≤ k
                                        · have d5 : ¬ (k : Int) < (N : Int) := by omega
                                          clear hge q2
                                          go_wp2
                                          go_round
                                          case rel => exact ⟨i + 1, by omega, by go_num⟩
                                          case measure => simp [intOf]; omega
                                        · have d5 : (k : Int) < (N : Int) := by omega
                                          obtain ⟨h1, rfl, x1, x2⟩ := HL8.out k (by omega)
                                          by_cases hkG : k < G
                                          · have d7 : (k : Int) < (G : Int) := by omega
                                            obtain ⟨h2, rfl, x3, x4⟩ := HS8.out k hkG
                                            clear hge HL8 HS8
                                            go_wp2
                                            go_round
                                            case rel => exact ⟨k + 1, by omega, by go_num⟩
                                            case measure => simp [intOf]; omega
                                          · have d7 : ¬ (k : Int) < (G : Int) := by omega
                                            clear hge HL8 HS8
                                            go_wp2
                                            go_round
                                            case rel => exact ⟨k + 1, by omega, by go_num⟩
                                            case measure => simp [intOf]; omega
                            · have d4 : (i : Int) < 2 := by omega
                              have hi : i < 2 := by omega
                              clear hge
                              as_aux_lemma =>
                                obtain ⟨ai, ci, hgi⟩ := HSH.out i hi
                                obtain ⟨m, hm⟩ : ∃ m : Int, m = -1 - (i : Int) := ⟨_, rfl⟩
                                have wu : IntKind.i64.wrap (-1 - (i : Int)) = m := by rw [IntKind.wrap_i64]; omega
                                have HMK : Hid (mk2 i = [.int .i64 m, .int .i64 m]) := by show _ = _; rw [hm]; rfl
                                have HGI : Hid (gl i = .slice ai G ci) := hgi
                                obtain ⟨wi, hwi⟩ : ∃ wi, wi = wr := ⟨_, rfl⟩
                                rw [← hwi] at HI ⊢
                                obtain ⟨a0, c0, hg0⟩ := HSH.out 0 (by omega)
                                have ci0 : wi.cell? ⟨gb, i, none⟩ = some (.slice ai G ci) := by rw [← hgi]; exact HI.out.1.lr.c i hi
                                have cz0 : wi.cell? ⟨gb, 0, none⟩ = some (.slice a0 G c0) := by rw [← hg0]; exact HI.out.1.lr.c 0 (by omega)
                                have HNB : Hid (¬ (Value.slice ai G ci).ownBlock = some gb) := by have := HI.out.1.lr.nb i hi; rw [hgi] at this; exact this
                                have wz : IntKind.i64.wrap ((G : Int) + 70) = (G : Int) + 70 := by rw [IntKind.wrap_i64]; omega
                                have HR0 : Hid (IG (.slice ai G ci) G i (G + 0) wi (.slice ai (G + 0) ci) wi) := by
                                  have := HI.out.1.lr.row i hi
                                  rw [hgi] at this
                                  exact IG.start this
                                obtain ⟨i0, hi0, hz0, hz1, hz2⟩ := info_parts Try.infoGap
                                obtain ⟨j1, hj1, hx0, hx1, hx2⟩ := info_parts Try.infoGapsRow
                                clear hwi hgi hm hg0
                                go_wp2
                                go_loopw [26, 27] (fun gx kx wr => ∃ (k : Nat) (ga : Option Addr) (gc : Nat), k ≤ G + 70 ∧ gx = .slice ga (G + k) gc ∧ kx = .int .i64 (k : Int) ∧ Hid (IG (.slice ai G ci) G i (G + k) wi (.slice ga (G + k) gc) wr)) (fun _ kx _ => (G + 70) - (intOf kx).toNat)
                                case atStart => exact ⟨0, ai, ci, Nat.zero_le _, rfl, rfl, HR0⟩
                                case round =>
                                  obtain ⟨k, g3, c3, hk, rfl, rfl, HK⟩ := hrel
                                  clear HR0
                                  have cw := HK.out.ch.cell cz0 HNB.out
                                  by_cases hge : G + 70 ≤ k
                                  · have d5 : ¬ (k : Int) < (G : Int) + 70 := by omega
                                    obtain rfl : k = G + 70 := by omega
                                    have HL : Hid (LL W B P5 P7 e ez gb G B3 gl (i + 1) (fun j => if j = i then .slice g3 (G + (G + 70)) c3 else Lg j) wr) := HI.out.1.step hi (by rw [HGI.out]; exact HK.out)
                                    have HLL : Hid (wr.ownsRow B3 43 1 (.slice la i lc) i ((List.range i).map Lg)) := HK.out.ch.owns HI.out.2 (fun q hq z => by
                                      have h1 := (HI.out.2.lt q hq).1
                                      have h2 := HI.out.1.rl3 i hi q (by rw [HGI.out]; exact z)
                                      omega)
                                    have HMP : Hid ((List.range i).map Lg ++ [.slice g3 (G + (G + 70)) c3] = (List.range (i + 1)).map (fun j => if j = i then .slice g3 (G + (G + 70)) c3 else Lg j)) := by
                                      show _ = _
                                      rw [List.range_succ, List.map_append]
                                      congr 1
                                      · refine List.map_congr_left (fun j hj => ?_)
                                        rw [List.mem_range] at hj
                                        rw [if_neg (by omega)]
                                      · simp
                                    have hB3 : B3 ≤ wr.heap.size := HL.out.gb3.2.2
                                    clear hge hk HK HI ci0 cz0
                                    go_wp2_with (first | (at_builtin; refine wpList_append_own _ rfl (.tmp 225) (.tmp 227) 63 rfl B3 43 j1 (.slice none 0 0) 1 24 Try.underlying63 hj1 hx0 hx1 hx2 rfl (by decide) _ _ _ rfl (HLL.out.alloc _) ⟨wr.heap.size, 0, none⟩ 1 1 [.slice g3 (G + (G + 70)) c3] rfl rfl ?le1 ?le2 ?le3 ?le4 ?le5 ?_))
                                    try (case le1 => exact oneW _ _ _)
                                    case le2 => rfl
                                    case le3 => unfold maxLen; omega
                                    case le4 => omega
                                    case le5 => omega
                                    intro v16 w16 ho16 hg16 _
                                    rw [HMP.out] at ho16
                                    obtain ⟨la2, lc2, rfl⟩ := owns_shape ho16
                                    have HN : Hid (LL W B P5 P7 e ez gb G B3 gl (i + 1) (fun j => if j = i then .slice g3 (G + (G + 70)) c3 else Lg j) w16 ∧ w16.ownsRow B3 43 1 (.slice la2 (i + 1) lc2) (i + 1) ((List.range (i + 1)).map (fun j => if j = i then .slice g3 (G + (G + 70)) c3 else Lg j))) :=
                                      ⟨(HL.out.below ((Below.refl _ _).alloc (Nat.le_refl _) _)).long (HLL.out.alloc _) hg16, ho16⟩
                                    clear ho16 hg16 HL HLL HMP hB3
                                    go_wp2
                                    go_roundw
                                    case rel => exact ⟨i + 1, _, la2, lc2, by omega, rfl, by go_num, HN⟩
                                    case measure => simp [intOf]; omega
                                  · have d5 : (k : Int) < (G : Int) + 70 := by omega
                                    have HF : Hid (∀ o : Obj, Fy (wr.alloc o) 0 45 [.int .i64 m, .int .i64 m] (.slice g3 (G + k) c3) (G + k) 0 [(.slice ai G ci, G)]) := fun o => by
                                      have := (HK.out.below ((Below.refl _ _).alloc (Nat.le_refl _) o)).fy
                                      rw [HMK.out] at this
                                      exact this
                                    clear ci0 cz0
                                    go_wp2_with (first | (at_builtin; refine append_fy rfl (.tmp 217) (.tmp 223) 43 rfl 0 45 i0 _ 16 [.int .i64 m, .int .i64 m] Nat.zero_lt_two Try.underlying43 hi0 hz0 hz1 hz2 rfl (.slice g3 (G + k) c3) (G + k) 0 [(.slice ai G ci, G)] rfl (HF.out _) ⟨wr.heap.size, 0, none⟩ 1 1 rfl (by decide) ?lc1 ?lc2 ?lc3 ?lc4 (Nat.zero_le _) ?_))
                                    case lc1 => exact twoW _ _ _ _
                                    case lc2 => intro u hu; simp only [List.mem_cons, List.not_mem_nil, or_false, or_self] at hu; subst hu; rfl
                                    case lc3 => unfold maxLen; omega
                                    case lc4 => omega
                                    intro v6 w6 ff
                                    obtain ⟨f1, f2, f3, a6, c6, rfl⟩ := ff.out
                                    have HN : Hid (IG (.slice ai G ci) G i (G + (k + 1)) wi (.slice a6 (G + (k + 1)) c6) w6) := by
                                      refine (HK.out.below ((Below.refl _ _).alloc (Nat.le_refl _) _)).step ?_ f2 (fun q hq => (f3 q hq).imp id (fun z => by simpa using z))
                                      rw [HMK.out]
                                      exact f1
                                    clear ff f1 f2 f3 HF HK cw
                                    go_wp2
                                    go_roundw
                                    case rel => exact ⟨k + 1, a6, c6, by omega, rfl, by go_num, HN⟩
                                    case measure => simp [intOf]; omega
                      · have d4 : (i : Int) < 2 := by omega
                        have hi : i < 2 := by omega
                        clear hge
                        as_aux_lemma =>
                          obtain ⟨ai, ci, hgi⟩ := HSH.out i hi
                          obtain ⟨m, hm⟩ : ∃ m : Int, m = -1 - (i : Int) := ⟨_, rfl⟩
                          have wu : IntKind.i64.wrap (-1 - (i : Int)) = m := by rw [IntKind.wrap_i64]; omega
                          have HMK : Hid (mk2 i = [.int .i64 m, .int .i64 m]) := by show _ = _; rw [hm]; rfl
                          have HGI : Hid (gl i = .slice ai G ci) := hgi
                          obtain ⟨wi, hwi⟩ : ∃ wi, wi = wr := ⟨_, rfl⟩
                          rw [← hwi] at HI ⊢
                          have ci0 : wi.cell? ⟨gb, i, none⟩ = some (.slice ai G ci) := by rw [← hgi]; exact HI.out.c i hi
                          have HNB : Hid (¬ (Value.slice ai G ci).ownBlock = some gb) := by have := HI.out.nb i hi; rw [hgi] at this; exact this
                          have HR0 : Hid (wi.ownsRow 0 45 2 (.slice ai G ci) G (rep 0 [.int .i64 m, .int .i64 m] ++ (gC e.s.gp).drop (0 * 2))) := by
                            have := HI.out.row i hi
                            rw [if_neg (by omega), hgi] at this
                            show wi.ownsRow 0 45 2 (.slice ai G ci) G (rep 0 [.int .i64 m, .int .i64 m] ++ (gC e.s.gp).drop (0 * 2))
                            simpa [rep_zero] using this
                          clear hwi hgi hm
                          go_wp2
                          go_loopw [24] (fun ix wr => ∃ k : Nat, k ≤ G ∧ ix = .int .i64 (k : Int) ∧ Hid (wr.ownsRow 0 45 2 (.slice ai G ci) G (rep k [.int .i64 m, .int .i64 m] ++ (gC e.s.gp).drop (k * 2)) ∧ Ch (fun q => (Value.slice ai G ci).ownBlock = some q) wi wr)) (fun ix _ => G - (intOf ix).toNat)
                          case atStart => exact ⟨0, Nat.zero_le _, rfl, HR0.out, Ch.refl _ _⟩
                          case round =>
                            obtain ⟨k, hk, rfl, HK⟩ := hrel
                            clear HR0
                            have cw := HK.out.2.cell ci0 HNB.out
                            by_cases hge : G ≤ k
                            · have d5 : ¬ (k : Int) < (G : Int) := by omega
                              have HN : Hid (LR W B P5 P7 e ez gb G gl (fun j => if j < i + 1 then rep G (mk2 j) else gC e.s.gp) wr) := by
                                refine HI.out.upd hi (by rw [HGI.out]; exact HK.out.2) ?_ (fun j hj => ?_)
                                · have := HK.out.1
                                  rw [show k = G by omega, List.drop_of_length_le (by rw [HGL.out]; exact Nat.le_refl _), List.append_nil] at this
                                  rw [if_pos (by omega), HMK.out, HGI.out]
                                  exact this
                                · by_cases q : j < i
                                  · rw [if_pos q, if_pos (by omega)]
                                  · rw [if_neg q, if_neg (by omega)]
                              clear hge hk HK HI ci0
                              go_wp2
                              go_roundw
                              case rel => exact ⟨i + 1, by omega, by go_num, HN⟩
                              case measure => simp [intOf]; omega
                            · have d5 : (k : Int) < (G : Int) := by omega
                              obtain ⟨g, hga⟩ : ∃ g, ai = some ⟨g, 0, none⟩ := by
                                rcases HK.out.1.2 with ⟨_, e2⟩ | ⟨g, cap, cur, e1, _⟩
                                · omega
                                · simp only [Value.slice.injEq, true_and] at e1
                                  exact ⟨g, e1.1⟩
                              subst hga
                              have hkn : k < G := by omega
                              have hlen := HK.out.1.1
                              obtain ⟨zz, cg⟩ : ∃ z, wr.cell? ⟨g, k * 2, none⟩ = some z := by
                                rw [HK.out.1.cellAt (k * 2) (by omega), List.getElem?_eq_getElem (by omega)]
                                exact ⟨_, rfl⟩
                              obtain ⟨zz2, cg2⟩ : ∃ z, wr.cell? ⟨g, k * 2 + 1, none⟩ = some z := by
                                rw [HK.out.1.cellAt (k * 2 + 1) (by omega), List.getElem?_eq_getElem (by omega)]
                                exact ⟨_, rfl⟩
                              have fg := HK.out.1.frozenAt (k * 2)
                              have fg2 := HK.out.1.frozenAt (k * 2 + 1)
                              have HK2 : Hid (((wr.setCell ⟨g, k * 2, none⟩ (.int .i64 m)).setCell ⟨g, k * 2 + 1, none⟩ (.int .i64 m)).ownsRow 0 45 2 (.slice (some ⟨g, 0, none⟩) G ci) G (rep (k + 1) [.int .i64 m, .int .i64 m] ++ (gC e.s.gp).drop ((k + 1) * 2)) ∧ Ch (fun q => (Value.slice (some ⟨g, 0, none⟩) G ci).ownBlock = some q) wi ((wr.setCell ⟨g, k * 2, none⟩ (.int .i64 m)).setCell ⟨g, k * 2 + 1, none⟩ (.int .i64 m))) := ⟨row_fillG HK.out.1 HGL.out hkn, (HK.out.2.set ⟨g, k * 2, none⟩ _ rfl).set ⟨g, k * 2 + 1, none⟩ _ rfl⟩
                              clear hge HK hlen HI ci0
                              go_wp2
                              go_roundw
                              case rel => exact ⟨k + 1, hkn, by go_num, HK2⟩
                              case measure => simp [intOf]; omega
                · have d3 : (k : Int) < 2 := by omega
                  clear hge
                  as_aux_lemma =>
                    have cwra : wr.cell? ⟨P5, 0, none⟩ = some (.pointer (some ⟨e.H, 0, none⟩)) := (HK.out.ln.p5.cell 0).trans rfl
                    have cwrb : wr.cell? ⟨P5, 1, none⟩ = some (.pointer (some ⟨e.R, 0, none⟩)) := (HK.out.ln.p5.cell 1).trans rfl
                    have cwrc : wr.cell? ⟨P7, 0, none⟩ = some (.pointer (some ⟨ez.H, 0, none⟩)) := (HK.out.ln.p7.cell 0).trans rfl
                    go_wp2_with fail
                    refine Calls.mono (QB.out wr HK.out.ln) ?_
                    rintro r1 w6 ⟨ua1, n1, uc1, rfl, hl1, ho1, hb1⟩
                    have HO1 : Hid ((bs).length = n1 ∧ w6.ownsRow wr.heap.size 5 1 (.slice ua1 n1 uc1) n1 ((toI (bs)).map (Value.int .u8))) := ⟨hl1, ho1⟩
                    have HW1 : Hid (Below wr.heap.size wr w6) := hb1
                    have HS1 : Hid (LS W B P5 P7 e ez k (.slice la (3 * k) lc) (.slice ga k gc) ps gs w6) := HK.out.below hb1
                    clear hl1 ho1 hb1 cwra cwrb cwrc
                    have cw6a : w6.cell? ⟨P5, 0, none⟩ = some (.pointer (some ⟨e.H, 0, none⟩)) := (HS1.out.ln.p5.cell 0).trans rfl
                    have cw6b : w6.cell? ⟨P5, 1, none⟩ = some (.pointer (some ⟨e.R, 0, none⟩)) := (HS1.out.ln.p5.cell 1).trans rfl
                    have cw6c : w6.cell? ⟨P7, 0, none⟩ = some (.pointer (some ⟨ez.H, 0, none⟩)) := (HS1.out.ln.p7.cell 0).trans rfl
                    go_wp2_with fail
                    refine Calls.mono (QB.out w6 HS1.out.ln) ?_
                    rintro r2 w7 ⟨ua2, n2, uc2, rfl, hl2, ho2, hb2⟩
                    have HO2 : Hid ((bs).length = n2 ∧ w7.ownsRow w6.heap.size 5 1 (.slice ua2 n2 uc2) n2 ((toI (bs)).map (Value.int .u8))) := ⟨hl2, ho2⟩
                    have HW2 : Hid (Below w6.heap.size w6 w7) := hb2
                    have HS2 : Hid (LS W B P5 P7 e ez k (.slice la (3 * k) lc) (.slice ga k gc) ps gs w7) := HS1.out.below hb2
                    clear hl2 ho2 hb2 cw6a cw6b cw6c
                    have cw7a : w7.cell? ⟨P5, 0, none⟩ = some (.pointer (some ⟨e.H, 0, none⟩)) := (HS2.out.ln.p5.cell 0).trans rfl
                    have cw7b : w7.cell? ⟨P5, 1, none⟩ = some (.pointer (some ⟨e.R, 0, none⟩)) := (HS2.out.ln.p5.cell 1).trans rfl
                    have cw7c : w7.cell? ⟨P7, 0, none⟩ = some (.pointer (some ⟨ez.H, 0, none⟩)) := (HS2.out.ln.p7.cell 0).trans rfl
                    go_wp2_with fail
                    refine Calls.mono (QR.out w7 HS2.out.ln) ?_
                    rintro r3 w8 ⟨ua3, n3, uc3, rfl, hl3, ho3, hb3⟩
                    have HO3 : Hid ((bs).length = n3 ∧ w8.ownsRow w7.heap.size 5 1 (.slice ua3 n3 uc3) n3 ((toI (bs)).map (Value.int .u8))) := ⟨hl3, ho3⟩
                    have HW3 : Hid (Below w7.heap.size w7 w8) := hb3
                    have HS3 : Hid (LS W B P5 P7 e ez k (.slice la (3 * k) lc) (.slice ga k gc) ps gs w8) := HS2.out.below hb3
                    clear hl3 ho3 hb3 cw7a cw7b cw7c
                    have cw8a : w8.cell? ⟨P5, 0, none⟩ = some (.pointer (some ⟨e.H, 0, none⟩)) := (HS3.out.ln.p5.cell 0).trans rfl
                    have cw8b : w8.cell? ⟨P5, 1, none⟩ = some (.pointer (some ⟨e.R, 0, none⟩)) := (HS3.out.ln.p5.cell 1).trans rfl
                    have cw8c : w8.cell? ⟨P7, 0, none⟩ = some (.pointer (some ⟨ez.H, 0, none⟩)) := (HS3.out.ln.p7.cell 0).trans rfl
                    go_wp2_with fail
                    refine Calls.mono (QZ.out w8 HS3.out.ln) ?_
                    rintro r4 w9 ⟨ua4, n4, uc4, rfl, hl4, ho4, hb4⟩
                    have HO4 : Hid (([97, 98, 99]).length = n4 ∧ w9.ownsRow w8.heap.size 5 1 (.slice ua4 n4 uc4) n4 ((toI ([97, 98, 99])).map (Value.int .u8))) := ⟨hl4, ho4⟩
                    have HW4 : Hid (Below w8.heap.size w8 w9) := hb4
                    have HS4 : Hid (LS W B P5 P7 e ez k (.slice la (3 * k) lc) (.slice ga k gc) ps gs w9) := HS3.out.below hb4
                    clear hl4 ho4 hb4 cw8a cw8b cw8c
                    have cw9a : w9.cell? ⟨P5, 0, none⟩ = some (.pointer (some ⟨e.H, 0, none⟩)) := (HS4.out.ln.p5.cell 0).trans rfl
                    have cw9b : w9.cell? ⟨P5, 1, none⟩ = some (.pointer (some ⟨e.R, 0, none⟩)) := (HS4.out.ln.p5.cell 1).trans rfl
                    have cw9c : w9.cell? ⟨P7, 0, none⟩ = some (.pointer (some ⟨ez.H, 0, none⟩)) := (HS4.out.ln.p7.cell 0).trans rfl
                    go_wp2_with fail
                    refine Calls.mono (QG.out w9 HS4.out.ln) ?_
                    rintro r5 w10 ⟨ua5, uc5, rfl, ho5, hb5⟩
                    have HO5 : Hid (w10.ownsRow w9.heap.size 45 2 (.slice ua5 G uc5) G (gC e.s.gp)) := ho5
                    have HW5 : Hid (Below w9.heap.size w9 w10) := hb5
                    have HS5 : Hid (LS W B P5 P7 e ez k (.slice la (3 * k) lc) (.slice ga k gc) ps gs w10) := HS4.out.below hb5
                    clear  ho5 hb5 cw9a cw9b cw9c
                    have cw10a : w10.cell? ⟨P5, 0, none⟩ = some (.pointer (some ⟨e.H, 0, none⟩)) := (HS5.out.ln.p5.cell 0).trans rfl
                    have cw10b : w10.cell? ⟨P5, 1, none⟩ = some (.pointer (some ⟨e.R, 0, none⟩)) := (HS5.out.ln.p5.cell 1).trans rfl
                    have cw10c : w10.cell? ⟨P7, 0, none⟩ = some (.pointer (some ⟨ez.H, 0, none⟩)) := (HS5.out.ln.p7.cell 0).trans rfl
                    go_upto_region 22 with fail
                    have h34 : n4 = 3 := HO4.out.1.symm
                    subst h34
                    have HR : Hid (∀ A : World, Below w10.heap.size w10 A → Seg .u8 A ua1 (toI bs) ∧ Seg .u8 A ua2 (toI bs) ∧ Seg .u8 A ua3 (toI bs) ∧ Seg .u8 A ua4 (toI [97, 98, 99])) := by
                      intro A hA
                      have b9 := hA.mono HW5.out.size
                      have b9' := HW5.out.trans b9
                      have b8' := HW4.out.trans (b9'.mono HW4.out.size)
                      have b7' := HW3.out.trans (b8'.mono HW3.out.size)
                      have b6' := HW2.out.trans (b7'.mono HW2.out.size)
                      exact ⟨own_sg (owns_down b6' HO1.out.2), own_sg (owns_down b7' HO2.out.2), own_sg (owns_down b8' HO3.out.2), own_sg (owns_down b9' HO4.out.2)⟩
                    have HNN : Hid (bs.length = n1 ∧ bs.length = n2 ∧ bs.length = n3) := ⟨HO1.out.1, HO2.out.1, HO3.out.1⟩
                    have QS1 : Hid (Calls Try.prog 16 #[.slice ua1 n1 uc1, .slice ua3 n3 uc3] w10 fun r w' => r = .returned (.bool true) ∧ Below w10.heap.size w10 w') := by
                      have q := HR.out w10 (Below.refl _ _)
                      have := same_any ua1 ua3 n1 n3 uc1 uc3 bs bs w10 HNN.out.1 HNN.out.2.2 q.1 q.2.2.1 (by have h1 := HBS.out; have h2 := HNN.out.1; omega)
                      rw [decide_eq_true rfl] at this
                      exact this
                    have QS2 : Hid (∀ A : World, Below w10.heap.size w10 A → Calls Try.prog 16 #[.slice ua2 n2 uc2, .slice ua3 n3 uc3] A fun r w' => r = .returned (.bool true) ∧ Below A.heap.size A w') := by
                      intro A hA
                      have q := HR.out A hA
                      have := same_any ua2 ua3 n2 n3 uc2 uc3 bs bs A HNN.out.2.1 HNN.out.2.2 q.2.1 q.2.2.1 (by have h1 := HBS.out; have h2 := HNN.out.2.1; omega)
                      rw [decide_eq_true rfl] at this
                      exact this
                    have QSG : Hid (∀ A x y, Below w10.heap.size w10 A → A.ownsRow 0 45 2 (.slice x G y) G (gC e.s.gp) → Calls Try.prog 20 #[.slice ua5 G uc5, .slice x G y] A fun r w' => r = .returned (.bool true) ∧ Below A.heap.size A w') := fun A x y hA hy => sameG_any A ua5 x G uc5 y _ 0 e.s.gp HGG.out hG5 (owns_down hA HO5.out) hy
                    have g0 : (wh != wh) = false := by simp
                    clear cw10a cw10b cw10c
                    go_wp2_with fail
                    refine Calls.mono QS1.out ?_
                    rintro r6 w11 ⟨rfl, hb11⟩
                    have HW11 : Hid (Below w10.heap.size w10 w11) := hb11
                    clear hb11 QS1
                    go_wp2_with fail
                    refine Calls.mono (QS2.out w11 HW11.out) ?_
                    rintro r7 w12 ⟨rfl, hb12⟩
                    have HW12 : Hid (Below w10.heap.size w10 w12) := HW11.out.trans (hb12.mono HW11.out.size)
                    have HS6 : Hid (LS W B P5 P7 e ez k (.slice la (3 * k) lc) (.slice ga k gc) ps gs w12) := HS5.out.below HW12.out
                    have kv : (convert 22 9 (.slice ua4 3 uc4)).run Try.prog w12 = .ok (.string { data := #[97, 98, 99] }) w12 := conv_any w12 ua4 uc4 [97, 98, 99] (HR.out w12 HW12.out).2.2.2 (by decide)
                    clear hb12 QS2 HW11
                    have cw12a : w12.cell? ⟨P5, 0, none⟩ = some (.pointer (some ⟨e.H, 0, none⟩)) := (HS6.out.ln.p5.cell 0).trans rfl
                    have cw12b : w12.cell? ⟨P5, 1, none⟩ = some (.pointer (some ⟨e.R, 0, none⟩)) := (HS6.out.ln.p5.cell 1).trans rfl
                    have cw12c : w12.cell? ⟨P7, 0, none⟩ = some (.pointer (some ⟨ez.H, 0, none⟩)) := (HS6.out.ln.p7.cell 0).trans rfl
                    go_wp2_with fail
                    refine Calls.mono (QGR.out w12 HS6.out.ln) ?_
                    rintro r8 w13 ⟨gx, gy, rfl, ho13, hb13⟩
                    have HW13 : Hid (Below w10.heap.size w10 w13) := HW12.out.trans (hb13.mono HW12.out.size)
                    have HQS : Hid _ := QSG.out w13 gx gy HW13.out (owns_mono ho13 (Nat.zero_le _))
                    clear ho13 hb13 kv cw12a cw12b cw12c QSG
                    go_wp2_with fail
                    refine Calls.mono HQS.out ?_
                    rintro r9 w14 ⟨rfl, hb14⟩
                    have HW14 : Hid (Below w10.heap.size w10 w14) := HW13.out.trans (hb14.mono HW13.out.size)
                    have HS7 : Hid (LS W B P5 P7 e ez k (.slice la (3 * k) lc) (.slice ga k gc) ps gs w14) := HS5.out.below HW14.out
                    clear hb14 HQS HW12 HW13 HS6 g0
                    go_upto_region 24 with fail
                    have HQ : Hid (LQ W B P5 P7 e ez (((ps ++ [⟨ua1, uc1, bs⟩]) ++ [⟨ua2, uc2, bs⟩]) ++ [⟨ua4, uc4, [97, 98, 99]⟩]) (gs ++ [.slice ua5 G uc5]) w14) := HK.out.rows3 HW1.out HO1.out HBS.out HW2.out HO2.out HBS.out HW3.out HW4.out HO4.out (by decide) HW5.out (by rw [HGG.out]; exact HO5.out) HW14.out
                    have HLR : Hid (w14.ownsRow B 22 1 (.slice la (3 * k) lc) (3 * k) (ps.map Ap.Part.val)) := HS7.out.lr
                    have HGR : Hid (w14.ownsRow B 43 1 (.slice ga k gc) k gs) := HS7.out.gr
                    have HM3 : Hid _ := map3 ps (u1 := ua1) (u2 := ua2) (u4 := ua4) (c1 := uc1) (c2 := uc2) (c4 := uc4) HO1.out.1 HO2.out.1 HO4.out.1
                    have hBz : B ≤ w14.heap.size := HS7.out.hB.2
                    obtain ⟨j0, hj, hy0, hy1, hy2⟩ := info_parts Ap.infoBytes
                    clear HS1 HS2 HS3 HS4 HS5 HS7 HR HNN HO1 HO2 HO3 HO4 HO5 HW1 HW2 HW3 HW4 HW5 HW14 HK QB QR QZ QG QGR
                    go_wp2_with (first | (at_builtin; refine wpList_append_own _ rfl (.tmp 163) (.tmp 167) 62 rfl B 22 j0 (.slice none 0 0) 1 24 Try.underlying62 hj hy0 hy1 hy2 rfl (by decide) _ _ _ rfl (HLR.out.alloc _) ⟨w14.heap.size, 0, none⟩ 3 3 [.slice ua1 n1 uc1, .slice ua2 n2 uc2, .slice ua4 3 uc4] rfl rfl ?ra1 ?ra2 ?ra3 ?ra4 ?ra5 ?_))
                    case ra1 => exact threeW _ _ _ _ _
                    case ra2 =>
                      intro u hu
                      simp only [List.mem_cons, List.not_mem_nil, or_false] at hu
                      rcases hu with rfl | rfl | rfl <;> rfl
                    case ra3 => unfold maxLen; omega
                    case ra4 => omega
                    case ra5 => simp; omega
                    intro v15 w15 ho15 hg15 _
                    rw [HM3.out] at ho15
                    obtain ⟨la2, lc2, rfl⟩ := owns_shape ho15
                    have HQ5 : Hid (LQ W B P5 P7 e ez (((ps ++ [⟨ua1, uc1, bs⟩]) ++ [⟨ua2, uc2, bs⟩]) ++ [⟨ua4, uc4, [97, 98, 99]⟩]) (gs ++ [.slice ua5 G uc5]) w15) := (HQ.out.below ((Below.refl _ _).alloc (Nat.le_refl _) _)).longL (HLR.out.alloc _) (Nat.le_refl _) hg15
                    have HGR5 : Hid (w15.ownsRow B 43 1 (.slice ga k gc) k gs) := keep_row (HGR.out.alloc _) (HLR.out.alloc _) (by decide) hg15
                    have HLR5 : Hid (w15.ownsRow B 22 1 (.slice la2 (3 * k + 3) lc2) (3 * k + 3) (List.map Ap.Part.val (((ps ++ [⟨ua1, uc1, bs⟩]) ++ [⟨ua2, uc2, bs⟩]) ++ [⟨ua4, uc4, [97, 98, 99]⟩]))) := ho15
                    have hBz2 : B ≤ w15.heap.size := HQ5.out.hB.2
                    obtain ⟨j1, hj1, hx0, hx1, hx2⟩ := info_parts Try.infoGapsRow
                    clear ho15 hg15 HQ HLR HGR hBz HM3
                    go_wp2_with (first | (at_builtin; refine wpList_append_own _ rfl (.tmp 169) (.tmp 171) 63 rfl B 43 j1 (.slice none 0 0) 1 24 Try.underlying63 hj1 hx0 hx1 hx2 rfl (by decide) _ _ _ rfl (HGR5.out.alloc _) ⟨w15.heap.size, 0, none⟩ 1 1 [.slice ua5 G uc5] rfl rfl ?rb1 ?rb2 ?rb3 ?rb4 ?rb5 ?_))
                    case rb1 => exact oneW _ _ _
                    case rb2 =>
                      intro u hu
                      simp only [List.mem_cons, List.not_mem_nil, or_false] at hu
                      rw [hu]; rfl
                    case rb3 => unfold maxLen; omega
                    case rb4 => omega
                    case rb5 => simp; omega
                    intro v16 w16 ho16 hg16 _
                    obtain ⟨ga2, gc2, rfl⟩ := owns_shape ho16
                    have H9 : Hid (LS W B P5 P7 e ez (k + 1) (.slice la2 (3 * (k + 1)) lc2) (.slice ga2 (k + 1) gc2) (((ps ++ [⟨ua1, uc1, bs⟩]) ++ [⟨ua2, uc2, bs⟩]) ++ [⟨ua4, uc4, [97, 98, 99]⟩]) (gs ++ [.slice ua5 G uc5]) w16) :=
                      ((HQ5.out.below ((Below.refl _ _).alloc (Nat.le_refl _) _)).longG (HGR5.out.alloc _) (Nat.le_refl _) hg16).ls (keep_row (HLR5.out.alloc _) (HGR5.out.alloc _) (by decide) hg16) ho16
                    clear ho16 hg16 HQ5 HGR5 HLR5 hBz2
                    go_wp2
                    go_roundw
                    case rel => exact ⟨k + 1, _, _, la2, ga2, lc2, gc2, by omega, rfl, rfl, by go_num, H9⟩
                    case measure => simp [intOf]; omega
          · have d1 : (k : Int) < (len : Int) := by omega
            have d2 : ¬ (k : Int) < 120 := by omega
            clear hge h1
            as_aux_lemma =>
              obtain ⟨B, hB⟩ : ∃ B, B = wr.heap.size := ⟨_, rfl⟩
              obtain ⟨wh, hwh⟩ : ∃ wh, wh = decide (0 < e.s.en ∧ e.s.gp = []) := ⟨_, rfl⟩
              obtain ⟨bs, hbs⟩ : ∃ bs, bs = bz e.s wh := ⟨_, rfl⟩
              obtain ⟨G, hG⟩ : ∃ G, G = e.s.gp.length := ⟨_, rfl⟩
              have hi := H0.out.ok1.inv
              have hz : bz ez.s true = [97, 98, 99] := by rw [HZS.out]; rfl
              have HS0 : Hid (LS W B P5 P7 e ez 0 (.slice none 0 0) (.slice none 0 0) [] [] wr) := by rw [hB]; exact LS.start H0.out
              have hG5 : G ≤ 65535 := by rw [hG]; exact (s_len_of hi).1
              have HBS : Hid (bs.length ≤ 65535) := by
                show bs.length ≤ 65535
                rw [hbs]; cases wh
                · simp [bz]
                · exact (s_len_of hi).2
              have QB : Hid (∀ A : World, HLn W P5 P7 e ez A → Calls Try.prog 14 #[.pointer (some ⟨e.H, 0, none⟩)] A fun r w' => ∃ ua n uc, r = .returned (.tuple #[.slice ua n uc, .bool wh]) ∧ (bs).length = n ∧ w'.ownsRow A.heap.size 5 1 (.slice ua n uc) n ((toI (bs)).map (Value.int .u8)) ∧ Below A.heap.size A w') := fun A hA => by rw [hbs]; exact bytes_any A e.H e.s e.v hA.ok1.h (s_len_of hi).2 wh hwh
              have QR : Hid (∀ A : World, HLn W P5 P7 e ez A → Calls Try.prog 28 #[.pointer (some ⟨e.R, 0, none⟩)] A fun r w' => ∃ ua n uc, r = .returned (.tuple #[.slice ua n uc, .bool wh]) ∧ (bs).length = n ∧ w'.ownsRow A.heap.size 5 1 (.slice ua n uc) n ((toI (bs)).map (Value.int .u8)) ∧ Below A.heap.size A w') := fun A hA => by rw [hbs]; exact bytesR_any A e.R e.s e.u hA.ok1.r hi wh hwh
              have QZ : Hid (∀ A : World, HLn W P5 P7 e ez A → Calls Try.prog 14 #[.pointer (some ⟨ez.H, 0, none⟩)] A fun r w' => ∃ ua n uc, r = .returned (.tuple #[.slice ua n uc, .bool true]) ∧ ([97, 98, 99]).length = n ∧ w'.ownsRow A.heap.size 5 1 (.slice ua n uc) n ((toI ([97, 98, 99])).map (Value.int .u8)) ∧ Below A.heap.size A w') := fun A hA => by rw [← hz]; exact bytes_any A ez.H ez.s ez.v hA.ok2.h (s_len_of hA.ok2.inv).2 true (by rw [HZS.out]; rfl)
              have QG : Hid (∀ A : World, HLn W P5 P7 e ez A → Calls Try.prog 17 #[.pointer (some ⟨e.H, 0, none⟩)] A fun r w' => ∃ ga gc, r = .returned (.slice ga G gc) ∧ w'.ownsRow A.heap.size 45 2 (.slice ga G gc) G (gC e.s.gp) ∧ Below A.heap.size A w') := fun A hA => (gaps_any A e.H e.s e.v hA.ok1.h (s_len_of hi).1).mono (by
                rintro r w' ⟨u, rfl, h1, h2⟩
                obtain ⟨ga, gc, rfl⟩ := owns_shape h1
                rw [← hG] at h1 ⊢
                exact ⟨ga, gc, rfl, h1, h2⟩)
              have QGR : Hid (∀ A : World, HLn W P5 P7 e ez A → Calls Try.prog 29 #[.pointer (some ⟨e.R, 0, none⟩)] A fun r w' => ∃ ga gc, r = .returned (.slice ga G gc) ∧ w'.ownsRow A.heap.size 45 2 (.slice ga G gc) G (gC e.s.gp) ∧ Below A.heap.size A w') := fun A hA => (gapsR_any A e.R e.s e.u hA.ok1.r hi).mono (by
                rintro r w' ⟨u, rfl, h1, h2⟩
                obtain ⟨ga, gc, rfl⟩ := owns_shape h1
                rw [← hG] at h1 ⊢
                exact ⟨ga, gc, rfl, h1, h2⟩)
              have HGG : Hid (e.s.gp.length = G) := hG.symm
              clear hB hwh hbs hG hi hz H0 HZS HTK
              go_wp2
              go_loopw [10, 11, 12] (fun lx gx ix wr => ∃ (k : Nat) (ps : List Ap.Part) (gs : List Value) (la ga : Option Addr) (lc gc : Nat), k ≤ 2 ∧ lx = .slice la (3 * k) lc ∧ gx = .slice ga k gc ∧ ix = .int .i64 (k : Int) ∧ Hid (LS W B P5 P7 e ez k (.slice la (3 * k) lc) (.slice ga k gc) ps gs wr)) (fun _ _ ix _ => 2 - (intOf ix).toNat)
              case atStart => exact ⟨0, [], [], none, none, 0, 0, by omega, rfl, rfl, rfl, HS0⟩
              case round =>
                obtain ⟨k, ps, gs, la, ga, lc, gc, hk3, rfl, rfl, rfl, HK⟩ := hrel
                clear HS0
                by_cases hge : 2 ≤ k
                · have d3 : ¬ (k : Int) < 2 := by omega
                  clear hge
                  as_aux_lemma =>
                    have hlen : ps.length = 3 * k := by have := HK.out.lr.1; simpa using this
                    have QA : Hid _ := Ap.fam_apart HK.out.fam HK.out.lr hlen (by omega) (by omega) HK.out.hB.2
                    clear hlen QB QR QZ QG QGR
                    go_wp2_with fail
                    refine Calls.mono QA.out ?_
                    rintro r10 w15 ⟨rfl, hc15⟩
                    obtain rfl : k = 2 := by omega
                    obtain ⟨gb, gl, hga, hgc, hsh, hlr⟩ := LS.holes HK.out hc15
                    subst hga
                    rw [HGG.out] at hsh hlr
                    have HSH : Hid (∀ j, j < 2 → ∃ a c, gl j = Value.slice a G c) := hsh
                    have HLR : Hid (LR W B P5 P7 e ez gb G gl (fun j => if j < 0 then rep G (mk2 j) else gC e.s.gp) w15) := by
                      rw [show (fun j => if j < 0 then rep G (mk2 j) else gC e.s.gp) = (fun _ => gC e.s.gp) from funext (fun j => by simp)]
                      exact hlr
                    have HGL : Hid ((gC e.s.gp).length = G * 2) := by show _ = _; rw [gC_len, HGG.out]
                    clear hsh hlr hc15 HK QA d1 d3 HGG HBS hk3
                    go_wp2
                    go_loopw [23] (fun ix wr => ∃ i : Nat, i ≤ 2 ∧ ix = .int .i64 (i : Int) ∧ Hid (LR W B P5 P7 e ez gb G gl (fun j => if j < i then rep G (mk2 j) else gC e.s.gp) wr)) (fun ix _ => 2 - (intOf ix).toNat)
                    case atStart => exact ⟨0, by omega, rfl, HLR⟩
                    case round =>
                      obtain ⟨i, hi2, rfl, HI⟩ := hrel
                      clear HLR
                      by_cases hge : 2 ≤ i
                      · have d4 : ¬ (i : Int) < 2 := by omega
                        have HM : Hid (LR W B P5 P7 e ez gb G gl (fun j => rep G (mk2 j)) wr) := HI.out.congr (fun j hj => by rw [if_pos (by omega)])
                        clear hge HI HGL
                        as_aux_lemma =>
                          obtain ⟨B3, hB3⟩ : ∃ B3, B3 = wr.heap.size := ⟨_, rfl⟩
                          have HL0 : Hid (LL W B P5 P7 e ez gb G B3 gl 0 gl wr ∧ wr.ownsRow B3 43 1 (.slice none 0 0) 0 ((List.range 0).map gl)) := ⟨by rw [hB3]; exact LL.start HM.out gl, World.ownsRow_nil _ _ _ _⟩
                          clear hB3 HM
                          go_wp2
                          go_loopw [22, 25] (fun lx ix wr => ∃ (i : Nat) (Lg : Nat → Value) (la : Option Addr) (lc : Nat), i ≤ 2 ∧ lx = .slice la i lc ∧ ix = .int .i64 (i : Int) ∧ Hid (LL W B P5 P7 e ez gb G B3 gl i Lg wr ∧ wr.ownsRow B3 43 1 (.slice la i lc) i ((List.range i).map Lg))) (fun _ ix _ => 2 - (intOf ix).toNat)
                          case atStart => exact ⟨0, gl, none, 0, by omega, rfl, rfl, HL0⟩
                          case round =>
                            clear hi2 d4
                            obtain ⟨i, Lg, la, lc, hi2, rfl, rfl, HI⟩ := hrel
                            clear HL0
                            by_cases hge : 2 ≤ i
                            · have d4 : ¬ (i : Int) < 2 := by omega
                              have d6 : i = 2 := by omega
                              clear hge
                              as_aux_lemma =>
                                obtain ⟨wf, hwf⟩ : ∃ wf, wf = wr := ⟨_, rfl⟩
                                rw [← hwf] at HI ⊢
                                obtain ⟨lb, hla, hlb⟩ := list2 HI.out.2 d6
                                subst hla
                                obtain ⟨N, hN⟩ : ∃ N, N = G + (G + 70) := ⟨_, rfl⟩
                                have hNl : N ≤ 1000000 := by omega
                                have HLO : Hid (∀ j, j < 2 → ∃ a c, (wf.cell? ⟨lb, j, none⟩ = some (.slice a N c)) ∧ ∀ k, k < N → ∃ g, a = some ⟨g, 0, none⟩ ∧ wf.cell? ⟨g, k * 2, none⟩ = some (.int .i64 (-1 - (j : Int))) ∧ wf.cell? ⟨g, k * 2 + 1, none⟩ = some (.int .i64 (-1 - (j : Int)))) := fun j hj => by
                                  obtain ⟨a, c, h1, h2⟩ := row_mk (HI.out.1.lon j (by omega))
                                  rw [← hN] at h1 h2
                                  exact ⟨a, c, by rw [← h1]; exact hlb j hj, h2⟩
                                have HSO : Hid (∀ j, j < 2 → ∃ a c, (wf.cell? ⟨gb, j, none⟩ = some (.slice a G c)) ∧ ∀ k, k < G → ∃ g, a = some ⟨g, 0, none⟩ ∧ wf.cell? ⟨g, k * 2, none⟩ = some (.int .i64 (-1 - (j : Int))) ∧ wf.cell? ⟨g, k * 2 + 1, none⟩ = some (.int .i64 (-1 - (j : Int)))) := fun j hj => by
                                  obtain ⟨a, c, h1, h2⟩ := row_mk (HI.out.1.lr.row j hj)
                                  exact ⟨a, c, by rw [← h1]; exact HI.out.1.lr.c j hj, h2⟩
                                have HH : Hid (HLn W P5 P7 e ez wf) := HI.out.1.lr.ln
                                clear hwf HI hlb hN HSH
                                go_wp2_with fail
                                subst d6
                                clear d4 hi2
                                go_loop [28] (fun ix => ∃ i : Nat, i ≤ 2 ∧ ix = .int .i64 (i : Int)) (fun ix => 2 - (intOf ix).toNat)
                                case atStart => exact ⟨0, by omega, rfl⟩
                                case round =>
                                  obtain ⟨i, hi2, rfl⟩ := hrel
                                  by_cases hge : 2 ≤ i
                                  · have d4 : ¬ (i : Int) < 2 := by omega
                                    clear hge HLO HSO hNl
                                    as_aux_lemma =>
                                      go_upto_region 54 with fail
                                      obtain ⟨BK, hBK⟩ : ∃ BK, BK = wf.heap.size := ⟨_, rfl⟩
                                      obtain ⟨w20, hw20⟩ : ∃ w20, w20 = wf.alloc (.cells #[.slice none 0 0, .slice none 0 0, .slice none 0 0, .slice none 0 0] 65) := ⟨_, rfl⟩
                                      have HA0 : Hid (LA W P5 P7 e ez BK 0 bz0 w20) := by rw [hBK]; exact LA.start HH.out hw20
                                      rw [← hBK, ← hw20]
                                      clear hBK hw20 HH
                                      have hq0 := HA0.out.ln.p5
                                      have QK0 : Hid _ := asked_any w20 e HA0.out.ln.ok1 4 BK bz0 HA0.out.bk HA0.out.hE HA0.out.hG (by have := HA0.out.le; omega) (by have := HA0.out.lg; omega)
                                      unfold pv at QK0
                                      unfold prv at hq0
                                      go_wp2_with (first | (refine wpList_load_Pr (.tmp 5) rfl P5 _ rfl rfl hq0 rfl ?_))
                                      refine Calls.mono QK0.out ?_
                                      rintro rk0 w21 ⟨rfl, hk0⟩
                                      obtain ⟨b1, hb1⟩ := HA0.out.ask hk0
                                      have HA1 : Hid (LA W P5 P7 e ez BK 1 b1 w21) := hb1
                                      clear hq0 QK0 hk0 hb1 HA0
                                      have hq1 := HA1.out.ln.p5
                                      have QK1 : Hid _ := asked_any w21 e HA1.out.ln.ok1 2 BK b1 HA1.out.bk HA1.out.hE HA1.out.hG (by have := HA1.out.le; omega) (by have := HA1.out.lg; omega)
                                      unfold pv at QK1
                                      unfold prv at hq1
                                      go_wp2_with (first | (refine wpList_load_Pr (.tmp 5) rfl P5 _ rfl rfl hq1 rfl ?_))
                                      refine Calls.mono QK1.out ?_
                                      rintro rk1 w22 ⟨rfl, hk1⟩
                                      obtain ⟨b2, hb2⟩ := HA1.out.ask hk1
                                      have HA2 : Hid (LA W P5 P7 e ez BK 2 b2 w22) := hb2
                                      clear hq1 QK1 hk1 hb2 HA1
                                      have hq2 := HA2.out.ln.p5
                                      have QK2 : Hid _ := asked_any w22 e HA2.out.ln.ok1 3 BK b2 HA2.out.bk HA2.out.hE HA2.out.hG (by have := HA2.out.le; omega) (by have := HA2.out.lg; omega)
                                      unfold pv at QK2
                                      unfold prv at hq2
                                      go_wp2_with (first | (refine wpList_load_Pr (.tmp 5) rfl P5 _ rfl rfl hq2 rfl ?_))
                                      refine Calls.mono QK2.out ?_
                                      rintro rk2 w23 ⟨rfl, hk2⟩
                                      obtain ⟨b3, hb3⟩ := HA2.out.ask hk2
                                      have HA3 : Hid (LA W P5 P7 e ez BK 3 b3 w23) := hb3
                                      clear hq2 QK2 hk2 hb3 HA2
                                      have hq3 := HA3.out.ln.p7
                                      have QK3 : Hid _ := asked_any w23 ez HA3.out.ln.ok2 4 BK b3 HA3.out.bk HA3.out.hE HA3.out.hG (by have := HA3.out.le; omega) (by have := HA3.out.lg; omega)
                                      unfold pv at QK3
                                      unfold prv at hq3
                                      go_wp2_with (first | (refine wpList_load_Pr (.tmp 7) rfl P7 _ rfl rfl hq3 rfl ?_))
                                      refine Calls.mono QK3.out ?_
                                      rintro rk3 w24 ⟨rfl, hk3⟩
                                      obtain ⟨b4, hb4⟩ := HA3.out.ask hk3
                                      have HA4 : Hid (LA W P5 P7 e ez BK 4 b4 w24) := hb4
                                      clear hq3 QK3 hk3 hb4 HA3
                                      go_wp2
                                      go_ret
                                      exact ⟨rfl, HA4.out.ln.bel⟩
                                  · have d4 : (i : Int) < 2 := by omega
                                    have hi : i < 2 := by omega
                                    clear hge
                                    obtain ⟨m, hm⟩ : ∃ m : Int, m = -1 - (i : Int) := ⟨_, rfl⟩
                                    have wu : IntKind.i64.wrap (-1 - (i : Int)) = m := by rw [IntKind.wrap_i64]; omega
                                    obtain ⟨a8, c8, cl, hl8⟩ := HLO.out i hi
                                    obtain ⟨ai, ci, cs, hs8⟩ := HSO.out i hi
                                    rw [← hm] at hl8 hs8
                                    have HL8 : Hid _ := hl8
                                    have HS8 : Hid _ := hs8
                                    have q2 : (Op.equalIn 10000 45 (.agg #[.int .i64 m, .int .i64 m]) (.agg #[.int .i64 m, .int .i64 m])).run Try.prog wf = .ok true wf := by have := eq2 m m m m wf 9998; simpa using this
                                    clear hm hl8 hs8 HLO HSO HH
                                    as_aux_lemma =>
                                      go_wp2
                                      go_loop [29] (fun kx => ∃ k : Nat, k ≤ N ∧ kx = .int .i64 (k : Int)) (fun kx => N - (intOf kx).toNat)
                                      case atStart => exact ⟨0, Nat.zero_le _, rfl⟩
                                      case round =>
                                        obtain ⟨k, hk, rfl⟩ := hrel
                                        by_cases hge : N ≤ k
                                        · have d5 : ¬ (k : Int) < (N : Int) := by omega
                                          clear hge q2
                                          go_wp2
                                          go_round
                                          case rel => exact ⟨i + 1, by omega, by go_num⟩
                                          case measure => simp [intOf]; omega
                                        · have d5 : (k : Int) < (N : Int) := by omega
                                          obtain ⟨h1, rfl, x1, x2⟩ := HL8.out k (by omega)
                                          by_cases hkG : k < G
                                          · have d7 : (k : Int) < (G : Int) := by omega
                                            obtain ⟨h2, rfl, x3, x4⟩ := HS8.out k hkG
                                            clear hge HL8 HS8
                                            go_wp2
                                            go_round
                                            case rel => exact ⟨k + 1, by omega, by go_num⟩
                                            case measure => simp [intOf]; omega
                                          · have d7 : ¬ (k : Int) < (G : Int) := by omega
                                            clear hge HL8 HS8
                                            go_wp2
                                            go_round
                                            case rel => exact ⟨k + 1, by omega, by go_num⟩
                                            case measure => simp [intOf]; omega
                            · have d4 : (i : Int) < 2 := by omega
                              have hi : i < 2 := by omega
                              clear hge
                              as_aux_lemma =>
                                obtain ⟨ai, ci, hgi⟩ := HSH.out i hi
                                obtain ⟨m, hm⟩ : ∃ m : Int, m = -1 - (i : Int) := ⟨_, rfl⟩
                                have wu : IntKind.i64.wrap (-1 - (i : Int)) = m := by rw [IntKind.wrap_i64]; omega
                                have HMK : Hid (mk2 i = [.int .i64 m, .int .i64 m]) := by show _ = _; rw [hm]; rfl
                                have HGI : Hid (gl i = .slice ai G ci) := hgi
                                obtain ⟨wi, hwi⟩ : ∃ wi, wi = wr := ⟨_, rfl⟩
                                rw [← hwi] at HI ⊢
                                obtain ⟨a0, c0, hg0⟩ := HSH.out 0 (by omega)
                                have ci0 : wi.cell? ⟨gb, i, none⟩ = some (.slice ai G ci) := by rw [← hgi]; exact HI.out.1.lr.c i hi
                                have cz0 : wi.cell? ⟨gb, 0, none⟩ = some (.slice a0 G c0) := by rw [← hg0]; exact HI.out.1.lr.c 0 (by omega)
                                have HNB : Hid (¬ (Value.slice ai G ci).ownBlock = some gb) := by have := HI.out.1.lr.nb i hi; rw [hgi] at this; exact this
                                have wz : IntKind.i64.wrap ((G : Int) + 70) = (G : Int) + 70 := by rw [IntKind.wrap_i64]; omega
                                have HR0 : Hid (IG (.slice ai G ci) G i (G + 0) wi (.slice ai (G + 0) ci) wi) := by
                                  have := HI.out.1.lr.row i hi
                                  rw [hgi] at this
                                  exact IG.start this
                                obtain ⟨i0, hi0, hz0, hz1, hz2⟩ := info_parts Try.infoGap
                                obtain ⟨j1, hj1, hx0, hx1, hx2⟩ := info_parts Try.infoGapsRow
                                clear hwi hgi hm hg0
                                go_wp2
                                go_loopw [26, 27] (fun gx kx wr => ∃ (k : Nat) (ga : Option Addr) (gc : Nat), k ≤ G + 70 ∧ gx = .slice ga (G + k) gc ∧ kx = .int .i64 (k : Int) ∧ Hid (IG (.slice ai G ci) G i (G + k) wi (.slice ga (G + k) gc) wr)) (fun _ kx _ => (G + 70) - (intOf kx).toNat)
                                case atStart => exact ⟨0, ai, ci, Nat.zero_le _, rfl, rfl, HR0⟩
                                case round =>
                                  obtain ⟨k, g3, c3, hk, rfl, rfl, HK⟩ := hrel
                                  clear HR0
                                  have cw := HK.out.ch.cell cz0 HNB.out
                                  by_cases hge : G + 70 ≤ k
                                  · have d5 : ¬ (k : Int) < (G : Int) + 70 := by omega
                                    obtain rfl : k = G + 70 := by omega
                                    have HL : Hid (LL W B P5 P7 e ez gb G B3 gl (i + 1) (fun j => if j = i then .slice g3 (G + (G + 70)) c3 else Lg j) wr) := HI.out.1.step hi (by rw [HGI.out]; exact HK.out)
                                    have HLL : Hid (wr.ownsRow B3 43 1 (.slice la i lc) i ((List.range i).map Lg)) := HK.out.ch.owns HI.out.2 (fun q hq z => by
                                      have h1 := (HI.out.2.lt q hq).1
                                      have h2 := HI.out.1.rl3 i hi q (by rw [HGI.out]; exact z)
                                      omega)
                                    have HMP : Hid ((List.range i).map Lg ++ [.slice g3 (G + (G + 70)) c3] = (List.range (i + 1)).map (fun j => if j = i then .slice g3 (G + (G + 70)) c3 else Lg j)) := by
                                      show _ = _
                                      rw [List.range_succ, List.map_append]
                                      congr 1
                                      · refine List.map_congr_left (fun j hj => ?_)
                                        rw [List.mem_range] at hj
                                        rw [if_neg (by omega)]
                                      · simp
                                    have hB3 : B3 ≤ wr.heap.size := HL.out.gb3.2.2
                                    clear hge hk HK HI ci0 cz0
                                    go_wp2_with (first | (at_builtin; refine wpList_append_own _ rfl (.tmp 225) (.tmp 227) 63 rfl B3 43 j1 (.slice none 0 0) 1 24 Try.underlying63 hj1 hx0 hx1 hx2 rfl (by decide) _ _ _ rfl (HLL.out.alloc _) ⟨wr.heap.size, 0, none⟩ 1 1 [.slice g3 (G + (G + 70)) c3] rfl rfl ?leb1 ?leb2 ?leb3 ?leb4 ?leb5 ?_))
                                    try (case leb1 => exact oneW _ _ _)
                                    case leb2 => rfl
                                    case leb3 => unfold maxLen; omega
                                    case leb4 => omega
                                    case leb5 => omega
                                    intro v16 w16 ho16 hg16 _
                                    rw [HMP.out] at ho16
                                    obtain ⟨la2, lcb2, rfl⟩ := owns_shape ho16
                                    have HN : Hid (LL W B P5 P7 e ez gb G B3 gl (i + 1) (fun j => if j = i then .slice g3 (G + (G + 70)) c3 else Lg j) w16 ∧ w16.ownsRow B3 43 1 (.slice la2 (i + 1) lcb2) (i + 1) ((List.range (i + 1)).map (fun j => if j = i then .slice g3 (G + (G + 70)) c3 else Lg j))) :=
                                      ⟨(HL.out.below ((Below.refl _ _).alloc (Nat.le_refl _) _)).long (HLL.out.alloc _) hg16, ho16⟩
                                    clear ho16 hg16 HL HLL HMP hB3
                                    go_wp2
                                    go_roundw
                                    case rel => exact ⟨i + 1, _, la2, lcb2, by omega, rfl, by go_num, HN⟩
                                    case measure => simp [intOf]; omega
                                  · have d5 : (k : Int) < (G : Int) + 70 := by omega
                                    have HF : Hid (∀ o : Obj, Fy (wr.alloc o) 0 45 [.int .i64 m, .int .i64 m] (.slice g3 (G + k) c3) (G + k) 0 [(.slice ai G ci, G)]) := fun o => by
                                      have := (HK.out.below ((Below.refl _ _).alloc (Nat.le_refl _) o)).fy
                                      rw [HMK.out] at this
                                      exact this
                                    clear ci0 cz0
                                    go_wp2_with (first | (at_builtin; refine append_fy rfl (.tmp 217) (.tmp 223) 43 rfl 0 45 i0 _ 16 [.int .i64 m, .int .i64 m] Nat.zero_lt_two Try.underlying43 hi0 hz0 hz1 hz2 rfl (.slice g3 (G + k) c3) (G + k) 0 [(.slice ai G ci, G)] rfl (HF.out _) ⟨wr.heap.size, 0, none⟩ 1 1 rfl (by decide) ?lcb1 ?lcb2 ?lcb3 ?lcb4 (Nat.zero_le _) ?_))
                                    case lcb1 => exact twoW _ _ _ _
                                    case lcb2 => intro u hu; simp only [List.mem_cons, List.not_mem_nil, or_false, or_self] at hu; subst hu; rfl
                                    case lcb3 => unfold maxLen; omega
                                    case lcb4 => omega
                                    intro v6 w6 ff
                                    obtain ⟨f1, f2, f3, a6, c6, rfl⟩ := ff.out
                                    have HN : Hid (IG (.slice ai G ci) G i (G + (k + 1)) wi (.slice a6 (G + (k + 1)) c6) w6) := by
                                      refine (HK.out.below ((Below.refl _ _).alloc (Nat.le_refl _) _)).step ?_ f2 (fun q hq => (f3 q hq).imp id (fun z => by simpa using z))
                                      rw [HMK.out]
                                      exact f1
                                    clear ff f1 f2 f3 HF HK cw
                                    go_wp2
                                    go_roundw
                                    case rel => exact ⟨k + 1, a6, c6, by omega, rfl, by go_num, HN⟩
                                    case measure => simp [intOf]; omega
                      · have d4 : (i : Int) < 2 := by omega
                        have hi : i < 2 := by omega
                        clear hge
                        as_aux_lemma =>
                          obtain ⟨ai, ci, hgi⟩ := HSH.out i hi
                          obtain ⟨m, hm⟩ : ∃ m : Int, m = -1 - (i : Int) := ⟨_, rfl⟩
                          have wu : IntKind.i64.wrap (-1 - (i : Int)) = m := by rw [IntKind.wrap_i64]; omega
                          have HMK : Hid (mk2 i = [.int .i64 m, .int .i64 m]) := by show _ = _; rw [hm]; rfl
                          have HGI : Hid (gl i = .slice ai G ci) := hgi
                          obtain ⟨wi, hwi⟩ : ∃ wi, wi = wr := ⟨_, rfl⟩
                          rw [← hwi] at HI ⊢
                          have ci0 : wi.cell? ⟨gb, i, none⟩ = some (.slice ai G ci) := by rw [← hgi]; exact HI.out.c i hi
                          have HNB : Hid (¬ (Value.slice ai G ci).ownBlock = some gb) := by have := HI.out.nb i hi; rw [hgi] at this; exact this
                          have HR0 : Hid (wi.ownsRow 0 45 2 (.slice ai G ci) G (rep 0 [.int .i64 m, .int .i64 m] ++ (gC e.s.gp).drop (0 * 2))) := by
                            have := HI.out.row i hi
                            rw [if_neg (by omega), hgi] at this
                            show wi.ownsRow 0 45 2 (.slice ai G ci) G (rep 0 [.int .i64 m, .int .i64 m] ++ (gC e.s.gp).drop (0 * 2))
                            simpa [rep_zero] using this
                          clear hwi hgi hm
                          go_wp2
                          go_loopw [24] (fun ix wr => ∃ k : Nat, k ≤ G ∧ ix = .int .i64 (k : Int) ∧ Hid (wr.ownsRow 0 45 2 (.slice ai G ci) G (rep k [.int .i64 m, .int .i64 m] ++ (gC e.s.gp).drop (k * 2)) ∧ Ch (fun q => (Value.slice ai G ci).ownBlock = some q) wi wr)) (fun ix _ => G - (intOf ix).toNat)
                          case atStart => exact ⟨0, Nat.zero_le _, rfl, HR0.out, Ch.refl _ _⟩
                          case round =>
                            obtain ⟨k, hk, rfl, HK⟩ := hrel
                            clear HR0
                            have cw := HK.out.2.cell ci0 HNB.out
                            by_cases hge : G ≤ k
                            · have d5 : ¬ (k : Int) < (G : Int) := by omega
                              have HN : Hid (LR W B P5 P7 e ez gb G gl (fun j => if j < i + 1 then rep G (mk2 j) else gC e.s.gp) wr) := by
                                refine HI.out.upd hi (by rw [HGI.out]; exact HK.out.2) ?_ (fun j hj => ?_)
                                · have := HK.out.1
                                  rw [show k = G by omega, List.drop_of_length_le (by rw [HGL.out]; exact Nat.le_refl _), List.append_nil] at this
                                  rw [if_pos (by omega), HMK.out, HGI.out]
                                  exact this
                                · by_cases q : j < i
                                  · rw [if_pos q, if_pos (by omega)]
                                  · rw [if_neg q, if_neg (by omega)]
                              clear hge hk HK HI ci0
                              go_wp2
                              go_roundw
                              case rel => exact ⟨i + 1, by omega, by go_num, HN⟩
                              case measure => simp [intOf]; omega
                            · have d5 : (k : Int) < (G : Int) := by omega
                              obtain ⟨g, hga⟩ : ∃ g, ai = some ⟨g, 0, none⟩ := by
                                rcases HK.out.1.2 with ⟨_, e2⟩ | ⟨g, cap, cur, e1, _⟩
                                · omega
                                · simp only [Value.slice.injEq, true_and] at e1
                                  exact ⟨g, e1.1⟩
                              subst hga
                              have hkn : k < G := by omega
                              have hlen := HK.out.1.1
                              obtain ⟨zz, cg⟩ : ∃ z, wr.cell? ⟨g, k * 2, none⟩ = some z := by
                                rw [HK.out.1.cellAt (k * 2) (by omega), List.getElem?_eq_getElem (by omega)]
                                exact ⟨_, rfl⟩
                              obtain ⟨zz2, cg2⟩ : ∃ z, wr.cell? ⟨g, k * 2 + 1, none⟩ = some z := by
                                rw [HK.out.1.cellAt (k * 2 + 1) (by omega), List.getElem?_eq_getElem (by omega)]
                                exact ⟨_, rfl⟩
                              have fg := HK.out.1.frozenAt (k * 2)
                              have fg2 := HK.out.1.frozenAt (k * 2 + 1)
                              have HK2 : Hid (((wr.setCell ⟨g, k * 2, none⟩ (.int .i64 m)).setCell ⟨g, k * 2 + 1, none⟩ (.int .i64 m)).ownsRow 0 45 2 (.slice (some ⟨g, 0, none⟩) G ci) G (rep (k + 1) [.int .i64 m, .int .i64 m] ++ (gC e.s.gp).drop ((k + 1) * 2)) ∧ Ch (fun q => (Value.slice (some ⟨g, 0, none⟩) G ci).ownBlock = some q) wi ((wr.setCell ⟨g, k * 2, none⟩ (.int .i64 m)).setCell ⟨g, k * 2 + 1, none⟩ (.int .i64 m))) := ⟨row_fillG HK.out.1 HGL.out hkn, (HK.out.2.set ⟨g, k * 2, none⟩ _ rfl).set ⟨g, k * 2 + 1, none⟩ _ rfl⟩
                              clear hge HK hlen HI ci0
                              go_wp2
                              go_roundw
                              case rel => exact ⟨k + 1, hkn, by go_num, HK2⟩
                              case measure => simp [intOf]; omega
                · have d3 : (k : Int) < 2 := by omega
                  clear hge
                  as_aux_lemma =>
                    have cwra : wr.cell? ⟨P5, 0, none⟩ = some (.pointer (some ⟨e.H, 0, none⟩)) := (HK.out.ln.p5.cell 0).trans rfl
                    have cwrb : wr.cell? ⟨P5, 1, none⟩ = some (.pointer (some ⟨e.R, 0, none⟩)) := (HK.out.ln.p5.cell 1).trans rfl
                    have cwrc : wr.cell? ⟨P7, 0, none⟩ = some (.pointer (some ⟨ez.H, 0, none⟩)) := (HK.out.ln.p7.cell 0).trans rfl
                    go_wp2_with fail
                    refine Calls.mono (QB.out wr HK.out.ln) ?_
                    rintro r1 w6 ⟨ua1, n1, uc1, rfl, hl1, ho1, hb1⟩
                    have HO1 : Hid ((bs).length = n1 ∧ w6.ownsRow wr.heap.size 5 1 (.slice ua1 n1 uc1) n1 ((toI (bs)).map (Value.int .u8))) := ⟨hl1, ho1⟩
                    have HW1 : Hid (Below wr.heap.size wr w6) := hb1
                    have HS1 : Hid (LS W B P5 P7 e ez k (.slice la (3 * k) lc) (.slice ga k gc) ps gs w6) := HK.out.below hb1
                    clear hl1 ho1 hb1 cwra cwrb cwrc
                    have cw6a : w6.cell? ⟨P5, 0, none⟩ = some (.pointer (some ⟨e.H, 0, none⟩)) := (HS1.out.ln.p5.cell 0).trans rfl
                    have cw6b : w6.cell? ⟨P5, 1, none⟩ = some (.pointer (some ⟨e.R, 0, none⟩)) := (HS1.out.ln.p5.cell 1).trans rfl
                    have cw6c : w6.cell? ⟨P7, 0, none⟩ = some (.pointer (some ⟨ez.H, 0, none⟩)) := (HS1.out.ln.p7.cell 0).trans rfl
                    go_wp2_with fail
                    refine Calls.mono (QB.out w6 HS1.out.ln) ?_
                    rintro r2 w7 ⟨ua2, n2, uc2, rfl, hl2, ho2, hb2⟩
                    have HO2 : Hid ((bs).length = n2 ∧ w7.ownsRow w6.heap.size 5 1 (.slice ua2 n2 uc2) n2 ((toI (bs)).map (Value.int .u8))) := ⟨hl2, ho2⟩
                    have HW2 : Hid (Below w6.heap.size w6 w7) := hb2
                    have HS2 : Hid (LS W B P5 P7 e ez k (.slice la (3 * k) lc) (.slice ga k gc) ps gs w7) := HS1.out.below hb2
                    clear hl2 ho2 hb2 cw6a cw6b cw6c
                    have cw7a : w7.cell? ⟨P5, 0, none⟩ = some (.pointer (some ⟨e.H, 0, none⟩)) := (HS2.out.ln.p5.cell 0).trans rfl
                    have cw7b : w7.cell? ⟨P5, 1, none⟩ = some (.pointer (some ⟨e.R, 0, none⟩)) := (HS2.out.ln.p5.cell 1).trans rfl
                    have cw7c : w7.cell? ⟨P7, 0, none⟩ = some (.pointer (some ⟨ez.H, 0, none⟩)) := (HS2.out.ln.p7.cell 0).trans rfl
                    go_wp2_with fail
                    refine Calls.mono (QR.out w7 HS2.out.ln) ?_
                    rintro r3 w8 ⟨ua3, n3, uc3, rfl, hl3, ho3, hb3⟩
                    have HO3 : Hid ((bs).length = n3 ∧ w8.ownsRow w7.heap.size 5 1 (.slice ua3 n3 uc3) n3 ((toI (bs)).map (Value.int .u8))) := ⟨hl3, ho3⟩
                    have HW3 : Hid (Below w7.heap.size w7 w8) := hb3
                    have HS3 : Hid (LS W B P5 P7 e ez k (.slice la (3 * k) lc) (.slice ga k gc) ps gs w8) := HS2.out.below hb3
                    clear hl3 ho3 hb3 cw7a cw7b cw7c
                    have cw8a : w8.cell? ⟨P5, 0, none⟩ = some (.pointer (some ⟨e.H, 0, none⟩)) := (HS3.out.ln.p5.cell 0).trans rfl
                    have cw8b : w8.cell? ⟨P5, 1, none⟩ = some (.pointer (some ⟨e.R, 0, none⟩)) := (HS3.out.ln.p5.cell 1).trans rfl
                    have cw8c : w8.cell? ⟨P7, 0, none⟩ = some (.pointer (some ⟨ez.H, 0, none⟩)) := (HS3.out.ln.p7.cell 0).trans rfl
                    go_wp2_with fail
                    refine Calls.mono (QZ.out w8 HS3.out.ln) ?_
                    rintro r4 w9 ⟨ua4, n4, uc4, rfl, hl4, ho4, hb4⟩
                    have HO4 : Hid (([97, 98, 99]).length = n4 ∧ w9.ownsRow w8.heap.size 5 1 (.slice ua4 n4 uc4) n4 ((toI ([97, 98, 99])).map (Value.int .u8))) := ⟨hl4, ho4⟩
                    have HW4 : Hid (Below w8.heap.size w8 w9) := hb4
                    have HS4 : Hid (LS W B P5 P7 e ez k (.slice la (3 * k) lc) (.slice ga k gc) ps gs w9) := HS3.out.below hb4
                    clear hl4 ho4 hb4 cw8a cw8b cw8c
                    have cw9a : w9.cell? ⟨P5, 0, none⟩ = some (.pointer (some ⟨e.H, 0, none⟩)) := (HS4.out.ln.p5.cell 0).trans rfl
                    have cw9b : w9.cell? ⟨P5, 1, none⟩ = some (.pointer (some ⟨e.R, 0, none⟩)) := (HS4.out.ln.p5.cell 1).trans rfl
                    have cw9c : w9.cell? ⟨P7, 0, none⟩ = some (.pointer (some ⟨ez.H, 0, none⟩)) := (HS4.out.ln.p7.cell 0).trans rfl
                    go_wp2_with fail
                    refine Calls.mono (QG.out w9 HS4.out.ln) ?_
                    rintro r5 w10 ⟨ua5, uc5, rfl, ho5, hb5⟩
                    have HO5 : Hid (w10.ownsRow w9.heap.size 45 2 (.slice ua5 G uc5) G (gC e.s.gp)) := ho5
                    have HW5 : Hid (Below w9.heap.size w9 w10) := hb5
                    have HS5 : Hid (LS W B P5 P7 e ez k (.slice la (3 * k) lc) (.slice ga k gc) ps gs w10) := HS4.out.below hb5
                    clear  ho5 hb5 cw9a cw9b cw9c
                    have cw10a : w10.cell? ⟨P5, 0, none⟩ = some (.pointer (some ⟨e.H, 0, none⟩)) := (HS5.out.ln.p5.cell 0).trans rfl
                    have cw10b : w10.cell? ⟨P5, 1, none⟩ = some (.pointer (some ⟨e.R, 0, none⟩)) := (HS5.out.ln.p5.cell 1).trans rfl
                    have cw10c : w10.cell? ⟨P7, 0, none⟩ = some (.pointer (some ⟨ez.H, 0, none⟩)) := (HS5.out.ln.p7.cell 0).trans rfl
                    go_upto_region 22 with fail
                    have h34 : n4 = 3 := HO4.out.1.symm
                    subst h34
                    have HR : Hid (∀ A : World, Below w10.heap.size w10 A → Seg .u8 A ua1 (toI bs) ∧ Seg .u8 A ua2 (toI bs) ∧ Seg .u8 A ua3 (toI bs) ∧ Seg .u8 A ua4 (toI [97, 98, 99])) := by
                      intro A hA
                      have b9 := hA.mono HW5.out.size
                      have b9' := HW5.out.trans b9
                      have b8' := HW4.out.trans (b9'.mono HW4.out.size)
                      have b7' := HW3.out.trans (b8'.mono HW3.out.size)
                      have b6' := HW2.out.trans (b7'.mono HW2.out.size)
                      exact ⟨own_sg (owns_down b6' HO1.out.2), own_sg (owns_down b7' HO2.out.2), own_sg (owns_down b8' HO3.out.2), own_sg (owns_down b9' HO4.out.2)⟩
                    have HNN : Hid (bs.length = n1 ∧ bs.length = n2 ∧ bs.length = n3) := ⟨HO1.out.1, HO2.out.1, HO3.out.1⟩
                    have QS1 : Hid (Calls Try.prog 16 #[.slice ua1 n1 uc1, .slice ua3 n3 uc3] w10 fun r w' => r = .returned (.bool true) ∧ Below w10.heap.size w10 w') := by
                      have q := HR.out w10 (Below.refl _ _)
                      have := same_any ua1 ua3 n1 n3 uc1 uc3 bs bs w10 HNN.out.1 HNN.out.2.2 q.1 q.2.2.1 (by have h1 := HBS.out; have h2 := HNN.out.1; omega)
                      rw [decide_eq_true rfl] at this
                      exact this
                    have QS2 : Hid (∀ A : World, Below w10.heap.size w10 A → Calls Try.prog 16 #[.slice ua2 n2 uc2, .slice ua3 n3 uc3] A fun r w' => r = .returned (.bool true) ∧ Below A.heap.size A w') := by
                      intro A hA
                      have q := HR.out A hA
                      have := same_any ua2 ua3 n2 n3 uc2 uc3 bs bs A HNN.out.2.1 HNN.out.2.2 q.2.1 q.2.2.1 (by have h1 := HBS.out; have h2 := HNN.out.2.1; omega)
                      rw [decide_eq_true rfl] at this
                      exact this
                    have QSG : Hid (∀ A x y, Below w10.heap.size w10 A → A.ownsRow 0 45 2 (.slice x G y) G (gC e.s.gp) → Calls Try.prog 20 #[.slice ua5 G uc5, .slice x G y] A fun r w' => r = .returned (.bool true) ∧ Below A.heap.size A w') := fun A x y hA hy => sameG_any A ua5 x G uc5 y _ 0 e.s.gp HGG.out hG5 (owns_down hA HO5.out) hy
                    have g0 : (wh != wh) = false := by simp
                    clear cw10a cw10b cw10c
                    go_wp2_with fail
                    refine Calls.mono QS1.out ?_
                    rintro r6 w11 ⟨rfl, hb11⟩
                    have HW11 : Hid (Below w10.heap.size w10 w11) := hb11
                    clear hb11 QS1
                    go_wp2_with fail
                    refine Calls.mono (QS2.out w11 HW11.out) ?_
                    rintro r7 w12 ⟨rfl, hb12⟩
                    have HW12 : Hid (Below w10.heap.size w10 w12) := HW11.out.trans (hb12.mono HW11.out.size)
                    have HS6 : Hid (LS W B P5 P7 e ez k (.slice la (3 * k) lc) (.slice ga k gc) ps gs w12) := HS5.out.below HW12.out
                    have kv : (convert 22 9 (.slice ua4 3 uc4)).run Try.prog w12 = .ok (.string { data := #[97, 98, 99] }) w12 := conv_any w12 ua4 uc4 [97, 98, 99] (HR.out w12 HW12.out).2.2.2 (by decide)
                    clear hb12 QS2 HW11
                    have cw12a : w12.cell? ⟨P5, 0, none⟩ = some (.pointer (some ⟨e.H, 0, none⟩)) := (HS6.out.ln.p5.cell 0).trans rfl
                    have cw12b : w12.cell? ⟨P5, 1, none⟩ = some (.pointer (some ⟨e.R, 0, none⟩)) := (HS6.out.ln.p5.cell 1).trans rfl
                    have cw12c : w12.cell? ⟨P7, 0, none⟩ = some (.pointer (some ⟨ez.H, 0, none⟩)) := (HS6.out.ln.p7.cell 0).trans rfl
                    go_wp2_with fail
                    refine Calls.mono (QGR.out w12 HS6.out.ln) ?_
                    rintro r8 w13 ⟨gx, gy, rfl, ho13, hb13⟩
                    have HW13 : Hid (Below w10.heap.size w10 w13) := HW12.out.trans (hb13.mono HW12.out.size)
                    have HQS : Hid _ := QSG.out w13 gx gy HW13.out (owns_mono ho13 (Nat.zero_le _))
                    clear ho13 hb13 kv cw12a cw12b cw12c QSG
                    go_wp2_with fail
                    refine Calls.mono HQS.out ?_
                    rintro r9 w14 ⟨rfl, hb14⟩
                    have HW14 : Hid (Below w10.heap.size w10 w14) := HW13.out.trans (hb14.mono HW13.out.size)
                    have HS7 : Hid (LS W B P5 P7 e ez k (.slice la (3 * k) lc) (.slice ga k gc) ps gs w14) := HS5.out.below HW14.out
                    clear hb14 HQS HW12 HW13 HS6 g0
                    go_upto_region 24 with fail
                    have HQ : Hid (LQ W B P5 P7 e ez (((ps ++ [⟨ua1, uc1, bs⟩]) ++ [⟨ua2, uc2, bs⟩]) ++ [⟨ua4, uc4, [97, 98, 99]⟩]) (gs ++ [.slice ua5 G uc5]) w14) := HK.out.rows3 HW1.out HO1.out HBS.out HW2.out HO2.out HBS.out HW3.out HW4.out HO4.out (by decide) HW5.out (by rw [HGG.out]; exact HO5.out) HW14.out
                    have HLR : Hid (w14.ownsRow B 22 1 (.slice la (3 * k) lc) (3 * k) (ps.map Ap.Part.val)) := HS7.out.lr
                    have HGR : Hid (w14.ownsRow B 43 1 (.slice ga k gc) k gs) := HS7.out.gr
                    have HM3 : Hid _ := map3 ps (u1 := ua1) (u2 := ua2) (u4 := ua4) (c1 := uc1) (c2 := uc2) (c4 := uc4) HO1.out.1 HO2.out.1 HO4.out.1
                    have hBz : B ≤ w14.heap.size := HS7.out.hB.2
                    obtain ⟨j0, hj, hy0, hy1, hy2⟩ := info_parts Ap.infoBytes
                    clear HS1 HS2 HS3 HS4 HS5 HS7 HR HNN HO1 HO2 HO3 HO4 HO5 HW1 HW2 HW3 HW4 HW5 HW14 HK QB QR QZ QG QGR
                    go_wp2_with (first | (at_builtin; refine wpList_append_own _ rfl (.tmp 163) (.tmp 167) 62 rfl B 22 j0 (.slice none 0 0) 1 24 Try.underlying62 hj hy0 hy1 hy2 rfl (by decide) _ _ _ rfl (HLR.out.alloc _) ⟨w14.heap.size, 0, none⟩ 3 3 [.slice ua1 n1 uc1, .slice ua2 n2 uc2, .slice ua4 3 uc4] rfl rfl ?rab1 ?rab2 ?rab3 ?rab4 ?rab5 ?_))
                    case rab1 => exact threeW _ _ _ _ _
                    case rab2 =>
                      intro u hu
                      simp only [List.mem_cons, List.not_mem_nil, or_false] at hu
                      rcases hu with rfl | rfl | rfl <;> rfl
                    case rab3 => unfold maxLen; omega
                    case rab4 => omega
                    case rab5 => simp; omega
                    intro v15 w15 ho15 hg15 _
                    rw [HM3.out] at ho15
                    obtain ⟨la2, lcb2, rfl⟩ := owns_shape ho15
                    have HQ5 : Hid (LQ W B P5 P7 e ez (((ps ++ [⟨ua1, uc1, bs⟩]) ++ [⟨ua2, uc2, bs⟩]) ++ [⟨ua4, uc4, [97, 98, 99]⟩]) (gs ++ [.slice ua5 G uc5]) w15) := (HQ.out.below ((Below.refl _ _).alloc (Nat.le_refl _) _)).longL (HLR.out.alloc _) (Nat.le_refl _) hg15
                    have HGR5 : Hid (w15.ownsRow B 43 1 (.slice ga k gc) k gs) := keep_row (HGR.out.alloc _) (HLR.out.alloc _) (by decide) hg15
                    have HLR5 : Hid (w15.ownsRow B 22 1 (.slice la2 (3 * k + 3) lcb2) (3 * k + 3) (List.map Ap.Part.val (((ps ++ [⟨ua1, uc1, bs⟩]) ++ [⟨ua2, uc2, bs⟩]) ++ [⟨ua4, uc4, [97, 98, 99]⟩]))) := ho15
                    have hBz2 : B ≤ w15.heap.size := HQ5.out.hB.2
                    obtain ⟨j1, hj1, hx0, hx1, hx2⟩ := info_parts Try.infoGapsRow
                    clear ho15 hg15 HQ HLR HGR hBz HM3
                    go_wp2_with (first | (at_builtin; refine wpList_append_own _ rfl (.tmp 169) (.tmp 171) 63 rfl B 43 j1 (.slice none 0 0) 1 24 Try.underlying63 hj1 hx0 hx1 hx2 rfl (by decide) _ _ _ rfl (HGR5.out.alloc _) ⟨w15.heap.size, 0, none⟩ 1 1 [.slice ua5 G uc5] rfl rfl ?rbb1 ?rbb2 ?rbb3 ?rbb4 ?rbb5 ?_))
                    case rbb1 => exact oneW _ _ _
                    case rbb2 =>
                      intro u hu
                      simp only [List.mem_cons, List.not_mem_nil, or_false] at hu
                      rw [hu]; rfl
                    case rbb3 => unfold maxLen; omega
                    case rbb4 => omega
                    case rbb5 => simp; omega
                    intro v16 w16 ho16 hg16 _
                    obtain ⟨ga2, gc2, rfl⟩ := owns_shape ho16
                    have H9 : Hid (LS W B P5 P7 e ez (k + 1) (.slice la2 (3 * (k + 1)) lcb2) (.slice ga2 (k + 1) gc2) (((ps ++ [⟨ua1, uc1, bs⟩]) ++ [⟨ua2, uc2, bs⟩]) ++ [⟨ua4, uc4, [97, 98, 99]⟩]) (gs ++ [.slice ua5 G uc5]) w16) :=
                      ((HQ5.out.below ((Below.refl _ _).alloc (Nat.le_refl _) _)).longG (HGR5.out.alloc _) (Nat.le_refl _) hg16).ls (keep_row (HLR5.out.alloc _) (HGR5.out.alloc _) (by decide) hg16) ho16
                    clear ho16 hg16 HQ5 HGR5 HLR5 hBz2
                    go_wp2
                    go_roundw
                    case rel => exact ⟨k + 1, _, _, la2, ga2, lcb2, gc2, by omega, rfl, rfl, by go_num, H9⟩
                    case measure => simp [intOf]; omega
        · have hkl : k < len := by omega
          have hk2 : k < 120 := by omega
          have d1 : (k : Int) < (len : Int) := by omega
          have d2 : (k : Int) < 120 := by omega
          have hkx : k < ops.length := by rw [HLN.out]; exact hkl
          obtain ⟨pb, po, rfl, hpb, hok, hc0, hc1, hc2⟩ := pcs_at HPS.out k hkx
          obtain ⟨q, hq⟩ : ∃ q, q = ops[k]'hkx := ⟨_, rfl⟩
          rw [← hq] at hok hc0 hc1 hc2
          obtain ⟨off, qa, qc, qs, more⟩ := q
          simp only at hc0 hc1 hc2
          obtain ⟨qn, hqn⟩ : ∃ qn, qn = qs.length := ⟨_, rfl⟩
          rw [← hqn] at hc1
          have HC0 : Hid _ := hc0
          have HC1 : Hid _ := hc1
          have HC2 : Hid _ := hc2
          have HQN : Hid (qs.length = qn) := hqn.symm
          have HQC : Hid (qn ≤ qc) := by rw [hqn]; exact hok.le
          have HQS : Hid (Seg .u8 W qa (toI qs)) := hok.seg
          have HQ8 : Hid (∀ x ∈ qs, x < 256) := hok.b8
          clear hge hok hc0 hc1 hc2 hq hqn hkx
          as_aux_lemma =>
            obtain ⟨d, hd⟩ : ∃ d, d = qs.take 4096 := ⟨_, rfl⟩
            obtain ⟨n, hn⟩ : ∃ n, n = d.length := ⟨_, rfl⟩
            have hn4 : n ≤ 4096 := by rw [hn, hd, List.length_take]; omega
            have HD8 : Hid (∀ x, x ∈ d → x < 256) := by rw [hd]; exact fun x hx => HQ8.out x (List.mem_of_mem_take hx)
            have QC : Hid (∀ A : World, HLn W P5 P7 e ez A → Below W.heap.size W A → Calls Try.prog 10 #[.slice qa qn qc] A fun r w' => ∃ ua uc, r = .returned (.slice ua n uc) ∧ w'.ownsRow A.heap.size 5 1 (.slice ua n uc) n ((toI d).map (Value.int .u8)) ∧ Below A.heap.size A w') := by
              intro A _ hA
              have := cut_any A qa qn qc qs HQN.out HQC.out (HQS.out.old hA)
              rw [← hd, ← hn] at this
              exact this
            have HN : Hid (d.length = n) := hn.symm
            clear hd hn HQS HQC HQN HQ8
            go_upto_region 10 with fail
            refine MixH.start (fun A => Below W.heap.size W A ∧ PrAt A P5 #[.pointer (some ⟨e.H, 0, none⟩), .pointer (some ⟨e.R, 0, none⟩)]) (by kernel_rfl) ?_
            obtain ⟨wA, hwA⟩ : ∃ wA, wA = wr.drew := ⟨_, rfl⟩
            have HHA : Hid (HLn W P5 P7 e ez wA) := by rw [hwA]; exact H0.out.below (drew_below (Below.refl _ _))
            have hS : Below W.heap.size W wA ∧ PrAt wA P5 #[.pointer (some ⟨e.H, 0, none⟩), .pointer (some ⟨e.R, 0, none⟩)] := ⟨HHA.out.bel, HHA.out.p5⟩
            rw [← hwA]
            clear hwA H0
            refine MixH.takes [false, true, true, true, true, false, true, true, true, true, false, false, true, true, true, true] 7 (by kernel_rfl) (by kernel_rfl) (by decide) (by kernel_rfl) hS (fun K hK => ?_)
            simp only [Mix.pick]
            repeat (go_big_quiet_step (fail))
            refine wpQuiet_nil (hK _ ?_)
            clear hK K
            refine MixH.take 6 0 _ (.agg #[.pointer (some ⟨e.H, 0, none⟩), .pointer (some ⟨e.R, 0, none⟩)]) rfl (by kernel_rfl) (by kernel_rfl) (by kernel_rfl) (by kernel_rfl) (yields_pr (.tmp 5) rfl P5 0 _ _ rfl rfl (fun A hA => ⟨(hA.2.cell 0).trans rfl, (hA.2.cell 1).trans rfl⟩)) hS (fun a' ha => ?_)
            simp only [Act.put, List.setIfInBounds_toArray, List.set_cons_succ, List.set_cons_zero] at ha
            subst ha
            refine MixH.take 5 5 _ (.int .i64 off) rfl (by kernel_rfl) (by kernel_rfl) (by kernel_rfl) (by kernel_rfl) (yields_int (.tmp 85) rfl ⟨pb, po + k * 3, none⟩ _ rfl rfl (fun A hA => (World.cell?_of_block (hA.1.block pb hpb)).trans HC0.out)) hS (fun a' ha => ?_)
            simp only [Act.put, List.setIfInBounds_toArray, List.set_cons_succ, List.set_cons_zero] at ha
            subst ha
            refine MixH.take 4 10 _ (.slice qa qn qc) rfl (by kernel_rfl) (by kernel_rfl) (by kernel_rfl) (by kernel_rfl) (yields_bytes (.tmp 90) rfl ⟨pb, po + k * 3 + 1, none⟩ _ rfl rfl (fun A hA => (World.cell?_of_block (hA.1.block pb hpb)).trans HC1.out)) hS (fun a' ha => ?_)
            simp only [Act.put, List.setIfInBounds_toArray, List.set_cons_succ, List.set_cons_zero] at ha
            subst ha
            refine MixH.take 3 16 _ (.bool more) rfl (by kernel_rfl) (by kernel_rfl) (by kernel_rfl) (by kernel_rfl) (yields_bool (.tmp 96) rfl ⟨pb, po + k * 3 + 2, none⟩ _ rfl rfl (fun A hA => (World.cell?_of_block (hA.1.block pb hpb)).trans HC2.out)) hS (fun a' ha => ?_)
            simp only [Act.put, List.setIfInBounds_toArray, List.set_cons_succ, List.set_cons_zero] at ha
            subst ha
            refine MixH.one [false, false, false, false, false, false, false, false, false, false, false, true] 2 11 _ rfl rfl (by kernel_rfl) (by kernel_rfl) (fun K hK => ?_)
            simp only [Mix.pick]
            go_wp2_with fail
            refine Calls.mono (QC.out wA HHA.out hS.1) ?_
            rintro ex wB ⟨ua, uc, rfl, hoB, hbB⟩
            have HOB : Hid (wB.ownsRow wA.heap.size 5 1 (.slice ua n uc) n ((toI d).map (Value.int .u8))) := hoB
            have HHB : Hid (HLn W P5 P7 e ez wB) := HHA.out.below hbB
            have HLT : Hid (∀ x, EB e x → x < wA.heap.size) := HHA.out.ok1.lt
            replace hS : Below W.heap.size W wB ∧ PrAt wB P5 #[.pointer (some ⟨e.H, 0, none⟩), .pointer (some ⟨e.R, 0, none⟩)] := ⟨HHB.out.bel, HHB.out.p5⟩
            clear QC hoB hbB HHA
            go_wp2
            refine ⟨rfl, hK _ _ hS ?_⟩
            clear hK K
            refine MixH.one [false, false, false, false, false, false, false, false, false, false, false, false, false, false, false, false, false, true] 1 17 _ rfl rfl (by kernel_rfl) (by kernel_rfl) (fun K hK => ?_)
            simp only [Mix.pick]
            have QP : Hid _ := put_w wB n uc HN.out (by omega) HD8.out more off e HHB.out.ok1 (by have := HTK.out; omega) HOB.out HLT.out
            go_wp2_with fail
            refine Calls.mono QP.out ?_
            rintro ex wC ⟨rfl, hmC⟩
            obtain ⟨e', h1', h2', h3', h4'⟩ := HHB.out.put1 hmC
            have HHC : Hid (HLn W P5 P7 e' ez wC ∧ e'.s.tk.length ≤ k + 1) := ⟨h1', by rw [h2']; exact pS_tk1 _ _ _ _ HTK.out⟩
            replace hS : Below W.heap.size W wC ∧ PrAt wC P5 #[.pointer (some ⟨e.H, 0, none⟩), .pointer (some ⟨e.R, 0, none⟩)] := ⟨HHC.out.1.bel, by have := HHC.out.1.p5; unfold prv at this; rw [h3', h4'] at this; exact this⟩
            clear QP hmC h1' h2' h3' h4' HHB HOB HLT
            go_wp2
            refine ⟨rfl, hK _ _ hS ?_⟩
            clear hK K
            refine MixH.takes [false, false, false, false, false, false, false, false, false, false, false, false, false, false, false, false, false, false, true] 0 (by kernel_rfl) (by kernel_rfl) (by decide) (by kernel_rfl) hS (fun K hK => ?_)
            simp only [Mix.pick]
            repeat (go_big_quiet_step (fail))
            refine wpQuiet_nil (hK _ ?_)
            clear hK K
            refine MixH.done (by kernel_rfl) ?_
            clear hS HC0 HC1 HC2 hpb
            have H9 : Hid (∃ e ez, HLn W P5 P7 e ez wC ∧ e.s.tk.length ≤ k + 1 ∧ ez.s = pS (nw 8) 0 [97, 98, 99] false) := ⟨_, _, HHC.out.1, HHC.out.2, HZS.out⟩
            clear HHC HTK HZS HN HD8
            go_wp2
            go_roundw
            case rel => exact ⟨k + 1, by omega, by go_num, H9⟩
            case measure => simp [intOf]; omega
end Go.Proofs.Ytcoaghcmbhogjaa
