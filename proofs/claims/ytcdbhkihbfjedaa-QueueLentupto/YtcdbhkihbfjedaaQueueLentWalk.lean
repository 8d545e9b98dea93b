/-
  Layer 18: QueueLent.
-/
import Derived.Test.YtcdbhkihbfjedaaQL4
import Derived.Test.YtcdbhkihbfjedaaQP5
namespace Go.Proofs.Ytcdbhkihbfjedaa
open Go.RowKit Go.ChangeShapes Go.WideShapes

set_option maxHeartbeats 6400000 in
set_option maxRecDepth 100000 in
theorem queueLent.walk (w : World) (a : Option Addr) (n cap : Nat) (ls : List LI) (hl : ls.length = n) (hs : ListG 5 liL LiW w a ls) (hn : n ≤ 1048576) (a2 : Option Addr) (n2 cap2 : Nat) (ls2 : List LI) (hl2 : ls2.length = n2) (hs2 : ListG 5 liL LiW w a2 ls2) (hn2 : n2 ≤ 1048576) (at' : Int) (_ : (Lit.int .i64 at').wf = true) (b : Option Addr) (len bcap : Nat) (ops : List OV) (hl3 : ops.length = len) (hs3 : ListG 5 ocL OpOk w b ops) (hn3 : len ≤ 1048576) : Calls Try.prog 12 #[.slice a n cap, .slice a2 n2 cap2, .int .i64 at', .slice b len bcap] w fun e w' => e = .returned (.bool true) ∧ Below w.heap.size w w' := by
  have HL : Hid (ls.length = n ∧ ListG 5 liL LiW w a ls ∧ n ≤ 1048576) := ⟨hl, hs, hn⟩
  have HL2 : Hid (ls2.length = n2 ∧ ListG 5 liL LiW w a2 ls2 ∧ n2 ≤ 1048576) := ⟨hl2, hs2, hn2⟩
  have HS : Hid (ListG 5 ocL OpOk w b ops ∧ ops.length = len ∧ len ≤ 1048576) := ⟨hs3, hl3, hn3⟩
  have hn' : n ≤ 1048576 := hn
  have hlen : len ≤ 1048576 := hn3
  clear hl hs hn hl2 hs2 hn2 hl3 hs3 hn3
  go_enter Try.func12, Try.ntmps12
  go_wp2_with fail
  refine Calls.mono (started_any w) ?_
  rintro e1 w1 ⟨rfl, b1⟩
  have H1 : Hid (Below w.heap.size w w1 ∧ ListG 5 liL LiW w1 a ls) := ⟨b1, HL.out.2.1.old b1⟩
  clear b1
  go_upto_region 5 with (first | (refine wpList_appG liL_len liL_one (by decide) rfl (.tmp 25) (.tmp 26) 22 36 rfl Try.underlying22 info_li w1.heap.size (.slice none 0 0) [] rfl GL.nil LiW a n cap ls rfl HL.out.1 H1.out.2 (by simp) (by have h1 := HL.out; omega) (Nat.le_refl _) ?_; intro v4 w4 gl4 g4 _))
  rw [List.nil_append] at gl4
  obtain ⟨va, vc, hv4⟩ := gl4.form
  rw [HL.out.1] at hv4
  subst hv4
  have H4 : Hid (GL 5 liL 36 w4 w1.heap.size (.slice va n vc) ls ∧ Below w.heap.size w w4) := by
    have b4 : Below w1.heap.size w1 w4 := ⟨g4.os, g4.tape, g4.output, g4.size, fun k hk => g4.block k hk (by simp [Value.ownBlock])⟩
    exact ⟨gl4, bthen H1.out.1 b4⟩
  clear gl4 g4
  by_cases hn0 : n = 0
  · have q0 : decide ((0 : Int) < (n : Int)) = false := decide_eq_false (by omega)
    have q0' : decide (0 < n) = false := decide_eq_false (by omega)
    have H5 : Hid (GL 5 liL 36 w4 w1.heap.size (.slice va n vc) ls ∧ ls.length = n ∧ Below w.heap.size w w4) := ⟨H4.out.1, HL.out.1, H4.out.2⟩
    clear hn0 H4
    go_upto_region 11 with (first | (refine wpList_nil_l4v rfl rfl ?_; intro BA X hB hX bX) | (refine wpList_store_l4v (.tmp 11) (.tmp 49) rfl rfl BA l4z ⟨a, n, cap, a2, n2, cap2, va, n, vc, a, n, cap⟩ rfl rfl hX rfl ?_; intro W0 h0 k0))
    have HW0 : Hid (Below w.heap.size w W0) := by
      have g1 := hB.out
      have g2 := H5.out.2.2.size
      have bb := bthen H5.out.2.2 bX
      exact bb.trans (k0.below (fun q hq => by omega) bb.size)
    have HT : Hid (ListG 5 liL (fun _ => True) W0 va ls ∧ ls.length = n ∧ L4vAt W0 BA ⟨a, n, cap, a2, n2, cap2, va, n, vc, a, n, cap⟩) := by
      obtain ⟨va', vc', hv, hg⟩ := H5.out.1.listG (ok := fun _ => True) liL_len (fun _ _ => trivial)
      simp only [Value.slice.injEq] at hv
      obtain ⟨rfl, _, _⟩ := hv
      have g1 := hB.out
      exact ⟨hg.old (bX.trans (k0.below (fun q hq => by omega) bX.size)), H5.out.2.1, h0⟩
    clear hB hX bX h0 k0 H5
    go_upto_region 12 with (first | (refine wpList_box_rmv (.tmp 50) rfl rmz rfl rfl ?_; intro R X hB hX bX))
    have H6 : Hid (Rm W0.heap.size X R none 0 0 [] ∧ L4vAt X BA ⟨a, n, cap, a2, n2, cap2, va, n, vc, a, n, cap⟩ ∧ Below W0.heap.size W0 X) := ⟨⟨hX, GL.nil, by have g1 := hB.out; omega, by decide⟩, HT.out.2.2.below bX, bX⟩
    clear hB hX bX
    go_wp2_with fail
    go_loopw [13, 14] (fun sv iv wr => ∃ (k : Nat) (S : List QE) (sa : Option Addr) (sc : Nat) (va' : Option Addr) (vc' : Nat) (N : Int) (L : List LI), k ≤ 4 ∧ sv = .slice sa S.length sc ∧ iv = .int .i64 (k : Nat) ∧ Hid (Rm W0.heap.size wr R va' vc' N L ∧ L4vAt wr BA ⟨a, n, cap, a2, n2, cap2, va, n, vc, a, n, cap⟩ ∧ QN W0.heap.size wr S ∧ GL 4 sdL 69 wr W0.heap.size (.slice sa S.length sc) (S.map QE.sv) ∧ Below W0.heap.size W0 wr ∧ S.length ≤ k)) (fun _ iv _ => 4 - (intOf iv).toNat)
    case atStart => exact ⟨0, [], none, 0, none, 0, 0, [], by decide, rfl, rfl, H6.out.1, H6.out.2.1, QN.nil _ _, GL.nil, H6.out.2.2, by decide⟩
    case round =>
      obtain ⟨k, S, sa, sc, va', vc', N, L, hk, rfl, rfl, HI⟩ := hrel
      clear H6
      by_cases hkn : k < 4
      · have p1 : decide ((k : Int) < 4) = true := decide_eq_true (by omega)
        have k0 : (0 : Int) ≤ (k : Int) := by omega
        have k1 : (k : Int) < 4 := by omega
        have k2 : ((k : Int)).toNat = k := by omega
        have wk : IntKind.i64.wrap ((k : Int) + 1) = (k : Int) + 1 := i64_s _ (by omega) (by omega)
        have hls : ∃ ak nk ck lk, (∀ x, L4vAt x BA ⟨a, n, cap, a2, n2, cap2, va, n, vc, a, n, cap⟩ → x.cell? ⟨BA, k, none⟩ = some (.slice ak nk ck)) ∧ ListG 5 liL (fun _ => True) W0 ak lk ∧ lk.length = nk ∧ nk ≤ 1048576 := by
          have weak : ∀ {a : Option Addr} {ls : List LI}, ListG 5 liL LiW w a ls → ListG 5 liL (fun _ => True) W0 a ls := fun h => by
            rcases h.old HW0.out with h | ⟨b1, o1, h1, h2, h3⟩
            · exact .inl h
            · exact .inr ⟨b1, o1, h1, h2, fun i o ho => ⟨trivial, (h3 i o ho).2⟩⟩
          rcases (show k = 0 ∨ k = 1 ∨ k = 2 ∨ k = 3 by omega) with rfl | rfl | rfl | rfl
          · exact ⟨a, n, cap, ls, fun x hx => hx.cell 0, weak HL.out.2.1, HL.out.1, HL.out.2.2⟩
          · exact ⟨a2, n2, cap2, ls2, fun x hx => hx.cell 1, weak HL2.out.2.1, HL2.out.1, HL2.out.2.2⟩
          · exact ⟨va, n, vc, ls, fun x hx => hx.cell 2, HT.out.1, HT.out.2.1, HL.out.2.2⟩
          · exact ⟨a, n, cap, ls, fun x hx => hx.cell 3, weak HL.out.2.1, HL.out.1, HL.out.2.2⟩
        obtain ⟨ak, nk, ck, lk, hcell, hlk, hnk, hbk⟩ := hls
        have HK : Hid ((∀ x, L4vAt x BA ⟨a, n, cap, a2, n2, cap2, va, n, vc, a, n, cap⟩ → x.cell? ⟨BA, k, none⟩ = some (.slice ak nk ck)) ∧ ListG 5 liL (fun _ => True) W0 ak lk ∧ lk.length = nk ∧ nk ≤ 1048576 ∧ k < 4) := ⟨hcell, hlk, hnk, hbk, hkn⟩
        clear hcell hlk hnk hbk hkn hk
        have QY : Hid _ := lay_any W0 W0.heap.size R va' vc' N L ak nk ck lk (fun _ => True) wr HK.out.2.2.1 HK.out.2.1 HK.out.2.2.2.1 HI.out.2.2.2.2.1 (Nat.le_refl _) HI.out.1
        have d0 : wr.cell? ⟨BA, k, none⟩ = some (.slice ak nk ck) := HK.out.1 wr HI.out.2.1
        go_wp2_with fail
        refine Calls.mono QY.out ?_
        rintro e2 x2 ⟨g, gc, L', rfl, r2, m2, k3⟩
        have H2 : Hid ((Rm W0.heap.size x2 R (some ⟨g, 0, none⟩) gc (nk : Int) L' ∧ L4vAt x2 BA ⟨a, n, cap, a2, n2, cap2, va, n, vc, a, n, cap⟩ ∧ QN W0.heap.size x2 S ∧ GL 4 sdL 69 x2 W0.heap.size (.slice sa S.length sc) (S.map QE.sv) ∧ Below W0.heap.size W0 x2) ∧ Marks lk L' ∧ S.length ≤ k) := ⟨⟨r2, HI.out.2.1.rb k3, HI.out.2.2.1.rb k3, HI.out.2.2.2.1.rbs k3, HI.out.2.2.2.2.1.trans (k3.below (fun q hq => hq.1) HI.out.2.2.2.2.1.size)⟩, m2, HI.out.2.2.2.2.2⟩
        clear r2 m2 k3 QY d0 HI
        have QW : Hid _ := newM (some ⟨g, 0, none⟩) nk gc lk (fun _ => True) x2 HK.out.2.2.1 (H2.out.1.1.list H2.out.2.1) (by have h1 := HK.out.2.2.2.1; omega)
        go_wp2_with fail
        refine Calls.mono QW.out ?_
        rintro e3 x3 ⟨q, en, rfl, m3, b3⟩
        have H3 : Hid ((Rm W0.heap.size x3 R (some ⟨g, 0, none⟩) gc (nk : Int) L' ∧ L4vAt x3 BA ⟨a, n, cap, a2, n2, cap2, va, n, vc, a, n, cap⟩ ∧ QN W0.heap.size x3 S ∧ GL 4 sdL 69 x3 W0.heap.size (.slice sa S.length sc) (S.map QE.sv) ∧ Below W0.heap.size W0 x3) ∧ MN x2.heap.size x3 lk q en) := ⟨⟨H2.out.1.1.below b3, H2.out.1.2.1.below b3, H2.out.1.2.2.1.below b3, H2.out.1.2.2.2.1.below b3, H2.out.1.2.2.2.2.trans (b3.mono H2.out.1.2.2.2.2.size)⟩, m3⟩
        clear b3 m3 QW
        have QT : Hid _ := stand_any W0 W0.heap.size R g gc L' ak nk ck lk (fun _ => True) x3 HK.out.2.2.1 HK.out.2.1 H3.out.1.2.2.2.2 H2.out.2.1 H3.out.1.1
        have d0 : x3.cell? ⟨BA, k, none⟩ = some (.slice ak nk ck) := HK.out.1 x3 H3.out.1.2.1
        go_wp2_with fail
        refine Calls.mono QT.out ?_
        rintro e4 x4 ⟨rfl, b4⟩
        have H4 : Hid ((Rm W0.heap.size x4 R (some ⟨g, 0, none⟩) gc (nk : Int) L' ∧ L4vAt x4 BA ⟨a, n, cap, a2, n2, cap2, va, n, vc, a, n, cap⟩ ∧ QN W0.heap.size x4 S ∧ GL 4 sdL 69 x4 W0.heap.size (.slice sa S.length sc) (S.map QE.sv) ∧ Below W0.heap.size W0 x4) ∧ MN x2.heap.size x4 lk q en) := ⟨⟨H3.out.1.1.below b4, H3.out.1.2.1.below b4, H3.out.1.2.2.1.below b4, H3.out.1.2.2.2.1.below b4, H3.out.1.2.2.2.2.trans (b4.mono H3.out.1.2.2.2.2.size)⟩, H3.out.2.below b4⟩
        clear b4 QT d0 H3
        have QR : Hid _ := newRM _ x4 q en ak nk ck lk (fun _ => True) x4 HK.out.2.2.1 (HK.out.2.1.old H4.out.1.2.2.2.2) H4.out.2
        have d0 : x4.cell? ⟨BA, k, none⟩ = some (.slice ak nk ck) := HK.out.1 x4 H4.out.1.2.1
        go_wp2_with fail
        refine Calls.mono QR.out ?_
        rintro e5 x5 ⟨v, rfl, m5, b5⟩
        have H5 : Hid ((Rm W0.heap.size x5 R (some ⟨g, 0, none⟩) gc (nk : Int) L' ∧ L4vAt x5 BA ⟨a, n, cap, a2, n2, cap2, va, n, vc, a, n, cap⟩ ∧ QN W0.heap.size x5 S ∧ GL 4 sdL 69 x5 W0.heap.size (.slice sa S.length sc) (S.map QE.sv) ∧ Below W0.heap.size W0 x5) ∧ MN x2.heap.size x5 lk q en ∧ MR x5 lk v) := ⟨⟨H4.out.1.1.below b5, H4.out.1.2.1.below b5, H4.out.1.2.2.1.below b5, H4.out.1.2.2.2.1.below b5, H4.out.1.2.2.2.2.trans (b5.mono H4.out.1.2.2.2.2.size)⟩, H4.out.2.below b5, m5⟩
        clear b5 m5 QR d0 H4
        go_upto_region 20 with (first | (refine wpList_nil_rqv rfl rfl ?_; intro B7 X hB7 hX bX) | (refine wpList_store_rqv (.tmp 17) (.tmp 76) rfl rfl B7 qz v rfl rfl hX rfl ?_; intro x6 h6 k6))
        have H6 : Hid ((Rm W0.heap.size x6 R (some ⟨g, 0, none⟩) gc (nk : Int) L' ∧ L4vAt x6 BA ⟨a, n, cap, a2, n2, cap2, va, n, vc, a, n, cap⟩ ∧ QN W0.heap.size x6 S ∧ GL 4 sdL 69 x6 W0.heap.size (.slice sa S.length sc) (S.map QE.sv) ∧ Below W0.heap.size W0 x6) ∧ MN x2.heap.size x6 lk q en ∧ MR x6 lk v ∧ RqvAt x6 B7 v) := by
          have h1 := hB7.out
          have h2 := H5.out.1.2.2.2.2.size
          refine ⟨⟨(H5.out.1.1.below bX).ks k6 hX (by decide) (by decide), (H5.out.1.2.1.below bX).ch k6 (by have := (Array.getElem?_eq_some_iff.1 H5.out.1.2.1).1; omega), (H5.out.1.2.2.1.below bX).ks k6 hX (by decide) (by decide) (by decide) (by decide) (by decide), (H5.out.1.2.2.2.1.below bX).kss k6 hX (by decide), ?_⟩, (H5.out.2.1.below bX).ks k6 hX (by decide) (by decide) (by decide), (H5.out.2.2.below bX).ks k6 hX (by decide) (by decide), h6⟩
          have bb : Below W0.heap.size W0 X := H5.out.1.2.2.2.2.trans (bX.mono H5.out.1.2.2.2.2.size)
          exact bb.trans (k6.below (fun q hq => by omega) bb.size)
        clear hB7 hX bX h6 k6 H5
        have QU : Hid _ := num_any en x6
        go_wp2_with fail
        refine Calls.mono QU.out ?_
        rintro e7 x7 ⟨rfl, rfl⟩
        clear QU
        have hM := H6.out.2.1
        have HNB : Hid (∀ x ∈ S, ∀ q, QB x.P x.G x.ms q → q < x2.heap.size) := fun x hx q hq => (H2.out.1.2.2.1.q x hx).qa.lt q hq
        have HW2 : Hid (W0.heap.size ≤ x2.heap.size) := H2.out.1.2.2.2.2.size
        have HSk : Hid (S.length ≤ k ∧ k < 4) := ⟨H2.out.2.2, HK.out.2.2.2.2⟩
        clear H2 HK
        rcases hM with ⟨hnb, rfl, P, G, rfl, hq, hP, hG⟩ | ⟨hnb, rfl, rfl⟩
        · have HE : Hid (QQ x6 P G (lk.map mk) tz ∧ x2.heap.size ≤ P ∧ x2.heap.size ≤ G ∧ AL x6 v (c0s lk) tz (lk.map rmk)) := ⟨hq, hP, hG, H6.out.2.2.1 hnb⟩
          clear hnb hq hP hG
          go_wp2_with (first | (refine wpList_load_rqv (.tmp 17) rfl B7 v rfl H6.out.2.2.2 rfl ?_) | (refine wpList_bsd (.tmp 92) (.tmp 93) rfl (some ⟨P, 0, none⟩) v rfl rfl rfl ?_) | (refine wpList_bs1s (.tmp 94) rfl ⟨some ⟨P, 0, none⟩, v⟩ rfl rfl ?_; intro B8 X hB8 hX bX) | (refine wpList_app1G sdL_len sdL_one (by decide) rfl (.tmp 91) (.tmp 95) 78 69 rfl Try.underlying78 info_sd W0.heap.size (.slice sa S.length sc) (S.map QE.sv) rfl (H6.out.1.2.2.2.1.below bX) B8 1 ⟨some ⟨P, 0, none⟩, v⟩ rfl (by have h1 := hB8.out; omega) hX (by rw [List.length_map]; have h1 := HSk.out; omega) (by have h1 := hB8.out; have h2 := H6.out.1.2.2.2.2.size; omega) ?_))
          intro v9 x9 gl9 g9 _
          obtain ⟨sa9, sc9, hv9⟩ := gl9.form
          rw [List.length_append, List.length_map, List.length_singleton] at hv9
          subst hv9
          obtain ⟨en, hen⟩ : ∃ en : QE, en = ⟨P, G, lk.map mk, tz, v, lk.map rmk⟩ := ⟨_, rfl⟩
          have H9 : Hid (Rm W0.heap.size x9 R (some ⟨g, 0, none⟩) gc (nk : Int) L' ∧ L4vAt x9 BA ⟨a, n, cap, a2, n2, cap2, va, n, vc, a, n, cap⟩ ∧ QN W0.heap.size x9 (S ++ [en]) ∧ GL 4 sdL 69 x9 W0.heap.size (.slice sa9 (S ++ [en]).length sc9) ((S ++ [en]).map QE.sv) ∧ Below W0.heap.size W0 x9 ∧ (S ++ [en]).length ≤ k + 1) := by
            have gX := H6.out.1.2.2.2.1.below bX
            have k9 := Ch.ofGrown g9
            have k9' : Ch (fun q => (Value.slice sa S.length sc).ownBlock = some q) X x9 := k9
            have qa : QN W0.heap.size x6 (S ++ [en]) := by
              rw [hen]
              exact H6.out.1.2.2.1.add ⟨P, G, lk.map mk, tz, v, lk.map rmk⟩ HE.out.1 (by show AL x6 v (csOf (lk.map mk)) tz (lk.map rmk); rw [csOf_mk]; exact HE.out.2.2.2) x2.heap.size HNB.out (mk_out HE.out.2.1 HE.out.2.2.1) HW2.out
            have bb : Below W0.heap.size W0 X := H6.out.1.2.2.2.2.trans (bX.mono H6.out.1.2.2.2.2.size)
            refine ⟨(H6.out.1.1.below bX).own gX k9', (H6.out.1.2.1.below bX).ch k9' (own_ne gX (H6.out.1.2.1.below bX) (by decide)), (qa.below bX).own gX k9', ?_, bb.trans (k9'.below (fun q hq => (gX.kind q hq).1) bb.size), by rw [List.length_append]; have := HSk.out; simp; omega⟩
            rw [List.map_append, List.length_append, List.length_singleton, hen]
            exact gl9
          have HLE : Hid ((S ++ [en]).length = S.length + 1) := by show _ = _; rw [List.length_append, List.length_singleton]
          rw [← HLE.out]
          clear gl9 g9 hB8 hX bX hen HE H6
          go_wp2_with fail
          go_roundw
          case rel => exact ⟨k + 1, S ++ [en], sa9, sc9, _, _, _, _, by have := HSk.out; omega, rfl, rfl, H9.out⟩
          case measure => simp only [intOf]; have := HSk.out; omega
        · go_wp2_with fail
          go_roundw
          case rel => exact ⟨k + 1, S, sa, sc, _, _, _, _, by have := HSk.out; omega, rfl, rfl, H6.out.1.1, H6.out.1.2.1, H6.out.1.2.2.1, H6.out.1.2.2.2.1, H6.out.1.2.2.2.2, by have := HSk.out; omega⟩
          case measure => simp only [intOf]; have := HSk.out; omega
      · have p1 : decide ((k : Int) < 4) = false := decide_eq_false (by omega)
        have HK4 : Hid (k ≤ 4) := hk
        clear hkn hk
        have QY : Hid _ := lay_any W0 W0.heap.size R va' vc' N L none 0 0 [] LiW wr rfl (.inl rfl) (by decide) HI.out.2.2.2.2.1 (Nat.le_refl _) HI.out.1
        go_wp2_with fail
        refine Calls.mono QY.out ?_
        rintro e2 x2 ⟨g, gc, L', rfl, _, _, k2⟩
        obtain ⟨sl, hsl⟩ : ∃ sl, S.length = sl := ⟨_, rfl⟩
        have H2 : Hid (QN W0.heap.size x2 S ∧ GL 4 sdL 69 x2 W0.heap.size (.slice sa sl sc) (S.map QE.sv) ∧ Below W0.heap.size W0 x2 ∧ S.length = sl ∧ sl ≤ 4) := ⟨HI.out.2.2.1.rb k2, by rw [← hsl]; exact HI.out.2.2.2.1.rbs k2, HI.out.2.2.2.2.1.trans (k2.below (fun q hq => hq.1) HI.out.2.2.2.2.1.size), hsl, by have h1 := HI.out.2.2.2.2.2; have h2 := HK4.out; omega⟩
        have hsl4 : sl ≤ 4 := H2.out.2.2.2.2
        rw [hsl]
        clear k2 QY hsl HI
        go_wp2_with fail
        go_loopw [19] (fun iv wr => ∃ (i : Nat) (S : List QE), i ≤ len ∧ iv = .int .i64 (i : Nat) ∧ Hid (QN W0.heap.size wr S ∧ GL 4 sdL 69 wr W0.heap.size (.slice sa sl sc) (S.map QE.sv) ∧ Below W0.heap.size W0 wr ∧ S.length = sl)) (fun iv _ => len - (intOf iv).toNat)
        case atStart => exact ⟨0, S, Nat.zero_le _, rfl, H2.out.1, H2.out.2.1, H2.out.2.2.1, H2.out.2.2.2.1⟩
        case round =>
          obtain ⟨i, S, hil, rfl, HI⟩ := hrel
          clear H2
          by_cases hlt : i < len
          · by_cases h200 : i < 200
            · have p1 : decide ((i : Int) < (len : Int)) = true := decide_eq_true (by omega)
              have p2 : decide (i < len) = true := decide_eq_true hlt
              have p3 : decide ((i : Int) < 200) = true := decide_eq_true (by omega)
              have i0 : (0 : Int) ≤ (i : Int) := by omega
              have i1 : (i : Int) < (len : Int) := by omega
              have i2 : ((i : Int)).toNat = i := by omega
              have wi : IntKind.i64.wrap ((i : Int) + 1) = (i : Int) + 1 := i64_s _ (by omega) (by omega)
              have HLT : Hid (i < len) := hlt
              clear hil hlt h200
              go_wp2_with fail
              go_loopw [20] (fun iv wr => ∃ (k : Nat) (S : List QE), k ≤ sl ∧ iv = .int .i64 (k : Nat) ∧ Hid (QN W0.heap.size wr S ∧ GL 4 sdL 69 wr W0.heap.size (.slice sa sl sc) (S.map QE.sv) ∧ Below W0.heap.size W0 wr ∧ S.length = sl)) (fun iv _ => sl - (intOf iv).toNat)
              case atStart => exact ⟨0, S, Nat.zero_le _, rfl, HI.out⟩
              case round =>
                obtain ⟨k, S, hks, rfl, HI⟩ := hrel
                by_cases hkl : k < sl
                · have r1 : decide ((k : Int) < (sl : Int)) = true := decide_eq_true (by omega)
                  have r2 : decide (k < sl) = true := decide_eq_true hkl
                  have k0 : (0 : Int) ≤ (k : Int) := by omega
                  have k1 : (k : Int) < (sl : Int) := by omega
                  have k2 : ((k : Int)).toNat = k := by omega
                  have wk : IntKind.i64.wrap ((k : Int) + 1) = (k : Int) + 1 := i64_s _ (by omega) (by omega)
                  obtain ⟨e, he⟩ : ∃ e, S[k]? = some e := ⟨_, List.getElem?_eq_getElem (by rw [HI.out.2.2.2]; exact hkl)⟩
                  obtain ⟨gs, c', hv, hbg, hgl, _⟩ := HI.out.2.1.at sdL_len k e.sv (by rw [List.getElem?_map, he]; rfl)
                  simp only [Value.slice.injEq] at hv
                  obtain ⟨rfl, hx1, hx2⟩ := hv
                  clear hx1 hx2
                  obtain ⟨kd, tw, cl, sz, it, g0, off, hbo, hrg⟩ := op_at' HS.out.1 HW0.out i (by rw [HS.out.2.1]; exact HLT.out)
                  subst hbo
                  have HR0 : Hid (W0.rangeAt g0 (off + i * 5) (opC ⟨kd, tw, cl, sz, it⟩).toList) := hrg
                  have HE : Hid (S[k]? = some e ∧ k < sl ∧ k < S.length) := ⟨he, hkl, by rw [HI.out.2.2.2]; exact hkl⟩
                  clear he hrg hkl hks hbg hgl
                  go_upto_region 31 with fail
                  refine MixH.start (fun A => Below W0.heap.size W0 A ∧ A.rangeAt gs (k * 4) (sdA ⟨some ⟨e.P, 0, none⟩, e.v⟩).toList) (by kernel_rfl) ?_
                  obtain ⟨wA, hwA⟩ : ∃ W_, W_ = wr.drew := ⟨_, rfl⟩
                  have bdr : Below wr.heap.size wr wA := by rw [hwA]; exact (Below.refl _ _).drew
                  have HV : Hid (QN W0.heap.size wA S ∧ GL 4 sdL 69 wA W0.heap.size (.slice (some ⟨gs, 0, none⟩) sl sc) (S.map QE.sv) ∧ Below W0.heap.size W0 wA) := ⟨HI.out.1.below bdr, HI.out.2.1.below bdr, HI.out.2.2.1.trans (bdr.mono HI.out.2.2.1.size)⟩
                  have hS : Below W0.heap.size W0 wA ∧ wA.rangeAt gs (k * 4) (sdA ⟨some ⟨e.P, 0, none⟩, e.v⟩).toList := ⟨HV.out.2.2, HV.out.2.1.range sdL_len k ⟨some ⟨e.P, 0, none⟩, e.v⟩ (by rw [List.getElem?_map, HE.out.1]; rfl)⟩
                  rw [← hwA]
                  clear hwA bdr
                  refine MixH.takes [true, true, true, false, true, true, true] 9 (by kernel_rfl) (by kernel_rfl) (by decide) (by kernel_rfl) hS (fun K hK => ?_)
                  simp only [Mix.pick]
                  repeat (go_big_quiet_step (fail))
                  refine wpQuiet_nil (hK _ ?_)
                  clear hK K
                  refine MixH.take 8 3 _ (.agg (sdA ⟨some ⟨e.P, 0, none⟩, e.v⟩)) rfl (by kernel_rfl) (by kernel_rfl) (by kernel_rfl) (by kernel_rfl) (yields_sdv (.tmp 118) rfl gs (k * 4) ⟨some ⟨e.P, 0, none⟩, e.v⟩ rfl rfl (fun A hA => hA.2)) hS (fun a' ha => ?_)
                  simp only [Act.put, List.setIfInBounds_toArray, List.set_cons_succ, List.set_cons_zero] at ha
                  subst ha
                  refine MixH.take 7 7 _ (.agg (opC ⟨kd, tw, cl, sz, it⟩)) rfl (by kernel_rfl) (by kernel_rfl) (by kernel_rfl) (by kernel_rfl) (yields_opv (.tmp 122) rfl g0 (off + i * 5) ⟨kd, tw, cl, sz, it⟩ rfl rfl (fun A hA => range_below HR0.out hA.1)) hS (fun a' ha => ?_)
                  simp only [Act.put, List.setIfInBounds_toArray, List.set_cons_succ, List.set_cons_zero] at ha
                  subst ha
                  refine MixH.pair [false, false, false, false, false, false, false, false, true] [false, false, false, false, false, false, false, false, false, false, false, false, true] 6 8 12 _ _ rfl rfl rfl rfl (by kernel_rfl) (by kernel_rfl) (fun K hK => ?_) (fun K hK => ?_)
                  · simp only [Mix.pick]
                    have QS : Hid _ := step_any (undN W0 S k e.P e.G) e.v e.rs (csOf e.ms) e.t kd cl sz it tw wA (HV.out.1.toJ HV.out.2.2 HE.out.1) (HV.out.1.al e (List.mem_of_getElem? HE.out.1))
                    go_wp2_with fail
                    refine Calls.mono (QS.out) ?_
                    rintro e5 x8 ⟨v5, rs5, cs5, t5, rfl, j5, a5, k5⟩
                    obtain ⟨ms5, n5, b5⟩ := HV.out.1.ofJ k5 HE.out.2.2 j5 a5
                    have HP : Hid (QN W0.heap.size x8 (S.set k ⟨e.P, e.G, ms5, t5, v5, rs5⟩) ∧ GL 4 sdL 69 x8 W0.heap.size (.slice (some ⟨gs, 0, none⟩) sl sc) (S.map QE.sv) ∧ Below W0.heap.size W0 x8) := ⟨n5, HV.out.2.1.kps k5, b5⟩
                    replace hS : Below W0.heap.size W0 x8 ∧ x8.rangeAt gs (k * 4) (sdA ⟨some ⟨e.P, 0, none⟩, e.v⟩).toList := ⟨b5, HP.out.2.1.range sdL_len k ⟨some ⟨e.P, 0, none⟩, e.v⟩ (by rw [List.getElem?_map, HE.out.1]; rfl)⟩
                    clear n5 b5 j5 a5 k5 QS HV
                    go_wp2_with fail
                    refine ⟨rfl, hK _ _ hS ?_⟩
                    clear hK K
                    refine MixH.takes [false, false, false, false, false, false, false, false, false, true, true, true] 3 (by kernel_rfl) (by kernel_rfl) (by decide) (by kernel_rfl) hS (fun K hK => ?_)
                    simp only [Mix.pick]
                    repeat (go_big_quiet_step (fail))
                    refine wpQuiet_nil (hK _ ?_)
                    clear hK K
                    refine MixH.one [false, false, false, false, false, false, false, false, false, false, false, false, true] 2 12 _ rfl rfl (by kernel_rfl) (by kernel_rfl) (fun K hK => ?_)
                    simp only [Mix.pick]
                    refine wpList_nil_sdv rfl rfl ?_
                    intro B21 xb hB21 hX21 bX21
                    go_wp2_with fail
                    have H_ : Hid (QN W0.heap.size xb (S.set k ⟨e.P, e.G, ms5, t5, v5, rs5⟩) ∧ GL 4 sdL 69 xb W0.heap.size (.slice (some ⟨gs, 0, none⟩) sl sc) (S.map QE.sv) ∧ Below W0.heap.size W0 xb) := ⟨HP.out.1.below bX21, HP.out.2.1.below bX21, HP.out.2.2.trans (bX21.mono HP.out.2.2.size)⟩
                    have HGB : Hid (gs < B21 ∧ W0.heap.size ≤ B21) := by
                      have h1 := (HP.out.2.1.kind gs rfl).2.1
                      have h2 := hB21.out
                      have h3 := HP.out.2.2.size
                      exact ⟨by omega, by omega⟩
                    replace hS : Below W0.heap.size W0 xb ∧ xb.rangeAt gs (k * 4) (sdA ⟨some ⟨e.P, 0, none⟩, e.v⟩).toList := ⟨H_.out.2.2, range_below hS.2 bX21⟩
                    have HX21 : Hid (SdvAt xb B21 sz0) := hX21
                    clear HP hX21 bX21 hB21
                    have HP : Hid _ := H_.out
                    clear H_
                    refine ⟨rfl, hK _ _ hS ?_⟩
                    clear hK K
                    refine MixH.one [false, false, false, false, false, false, false, false, false, false, false, false, false, true] 1 13 _ rfl rfl (by kernel_rfl) (by kernel_rfl) (fun K hK => ?_)
                    simp only [Mix.pick]
                    refine wpList_store_sdv (.tmp 21) (.tmp 125) rfl rfl B21 sz0 ⟨some ⟨e.P, 0, none⟩, v5⟩ rfl rfl HX21.out rfl ?_
                    intro xs hs9 ks9
                    refine wpList_nil ?_
                    have HQ : Hid ((QN W0.heap.size xs (S.set k ⟨e.P, e.G, ms5, t5, v5, rs5⟩) ∧ GL 4 sdL 69 xs W0.heap.size (.slice (some ⟨gs, 0, none⟩) sl sc) (S.map QE.sv) ∧ Below W0.heap.size W0 xs) ∧ SdvAt xs B21 ⟨some ⟨e.P, 0, none⟩, v5⟩) := by
                      have h1 := HGB.out
                      exact ⟨⟨HP.out.1.ks ks9 HX21.out (by decide) (by decide) (by decide) (by decide) (by decide), HP.out.2.1.ch ks9 (fun q hq => by simp [Value.ownBlock] at hq; omega), HP.out.2.2.trans (ks9.below (fun q hq => by omega) HP.out.2.2.size)⟩, hs9⟩
                    replace hS : Below W0.heap.size W0 xs ∧ xs.rangeAt gs (k * 4) (sdA ⟨some ⟨e.P, 0, none⟩, e.v⟩).toList := ⟨HQ.out.1.2.2, HQ.out.1.2.1.range sdL_len k ⟨some ⟨e.P, 0, none⟩, e.v⟩ (by rw [List.getElem?_map, HE.out.1]; rfl)⟩
                    clear hs9 ks9 HP HX21
                    refine ⟨rfl, hK _ _ hS ?_⟩
                    clear hK K
                    refine MixH.takes [false, false, false, false, false, false, false, false, false, false, false, false, false, false, true] 0 (by kernel_rfl) (by kernel_rfl) (by decide) (by kernel_rfl) hS (fun K hK => ?_)
                    simp only [Mix.pick]
                    repeat (go_big_quiet_step (fail))
                    refine wpQuiet_nil (hK _ ?_)
                    clear hK K
                    refine MixH.done (by kernel_rfl) ?_
                    clear hS
                    go_wp2_with (first | (refine wpList_load_sdv (.tmp 21) rfl B21 ⟨some ⟨e.P, 0, none⟩, v5⟩ rfl HQ.out.2 rfl ?_) | (refine wpList_setG sdL_len sdL_one 69 info_sd (.tmp 132) (.tmp 131) rfl rfl W0.heap.size gs sl sc (S.map QE.sv) k (k * 4) ⟨some ⟨e.P, 0, none⟩, v5⟩ rfl rfl rfl HQ.out.1.2.1 HE.out.2.1 rfl ?_))
                    intro xt glt kt
                    have HT2 : Hid (QN W0.heap.size xt (S.set k ⟨e.P, e.G, ms5, t5, v5, rs5⟩) ∧ GL 4 sdL 69 xt W0.heap.size (.slice (some ⟨gs, 0, none⟩) sl sc) ((S.set k ⟨e.P, e.G, ms5, t5, v5, rs5⟩).map QE.sv) ∧ Below W0.heap.size W0 xt ∧ (S.set k ⟨e.P, e.G, ms5, t5, v5, rs5⟩).length = sl) := by
                      obtain ⟨hb1, _, c, h3⟩ := HQ.out.1.2.1.kind gs rfl
                      exact ⟨HQ.out.1.1.ks kt h3 (by decide) (by decide) (by decide) (by decide) (by decide), by rw [List.map_set]; exact glt, HQ.out.1.2.2.trans (kt.below (fun q hq => by subst hq; exact hb1) HQ.out.1.2.2.size), by rw [List.length_set]; exact HI.out.2.2.2⟩
                    clear glt kt HQ
                    go_wp2_with fail
                    go_roundw
                    case rel => exact ⟨k + 1, (S.set k ⟨e.P, e.G, ms5, t5, v5, rs5⟩), by have := HE.out.2.1; omega, rfl, HT2.out⟩
                    case measure => simp only [intOf]; have := HE.out.2.1; omega
                  · simp only [Mix.pick]
                    refine wpList_nil_sdv rfl rfl ?_
                    intro B21 xb hB21 hX21 bX21
                    go_wp2_with fail
                    have H_ : Hid (QN W0.heap.size xb S ∧ GL 4 sdL 69 xb W0.heap.size (.slice (some ⟨gs, 0, none⟩) sl sc) (S.map QE.sv) ∧ Below W0.heap.size W0 xb) := ⟨HV.out.1.below bX21, HV.out.2.1.below bX21, HV.out.2.2.trans (bX21.mono HV.out.2.2.size)⟩
                    have HGB : Hid (gs < B21 ∧ W0.heap.size ≤ B21) := by
                      have h1 := (HV.out.2.1.kind gs rfl).2.1
                      have h2 := hB21.out
                      have h3 := HV.out.2.2.size
                      exact ⟨by omega, by omega⟩
                    replace hS : Below W0.heap.size W0 xb ∧ xb.rangeAt gs (k * 4) (sdA ⟨some ⟨e.P, 0, none⟩, e.v⟩).toList := ⟨H_.out.2.2, range_below hS.2 bX21⟩
                    have HBX : Hid (SdvAt xb B21 sz0) := hX21
                    clear HV hX21 bX21 hB21
                    have HV : Hid _ := H_.out
                    clear H_
                    refine ⟨rfl, hK _ _ hS ?_⟩
                    clear hK K
                    refine MixH.one [false, false, false, false, false, false, false, false, true] 5 8 _ rfl rfl (by kernel_rfl) (by kernel_rfl) (fun K hK => ?_)
                    simp only [Mix.pick]
                    have QS : Hid _ := step_any (undN W0 S k e.P e.G) e.v e.rs (csOf e.ms) e.t kd cl sz it tw xb (HV.out.1.toJ HV.out.2.2 HE.out.1) (HV.out.1.al e (List.mem_of_getElem? HE.out.1))
                    go_wp2_with fail
                    refine Calls.mono (QS.out) ?_
                    rintro e5 x8 ⟨v5, rs5, cs5, t5, rfl, j5, a5, k5⟩
                    obtain ⟨ms5, n5, b5⟩ := HV.out.1.ofJ k5 HE.out.2.2 j5 a5
                    have HP : Hid (QN W0.heap.size x8 (S.set k ⟨e.P, e.G, ms5, t5, v5, rs5⟩) ∧ GL 4 sdL 69 x8 W0.heap.size (.slice (some ⟨gs, 0, none⟩) sl sc) (S.map QE.sv) ∧ Below W0.heap.size W0 x8) := ⟨n5, HV.out.2.1.kps k5, b5⟩
                    have HX21 : Hid (SdvAt x8 B21 sz0) := HBX.out.kp k5
                    replace hS : Below W0.heap.size W0 x8 ∧ x8.rangeAt gs (k * 4) (sdA ⟨some ⟨e.P, 0, none⟩, e.v⟩).toList := ⟨b5, HP.out.2.1.range sdL_len k ⟨some ⟨e.P, 0, none⟩, e.v⟩ (by rw [List.getElem?_map, HE.out.1]; rfl)⟩
                    clear n5 b5 j5 a5 k5 QS HV
                    go_wp2_with fail
                    refine ⟨rfl, hK _ _ hS ?_⟩
                    clear hK K
                    refine MixH.takes [false, false, false, false, false, false, false, false, false, true, true, true] 2 (by kernel_rfl) (by kernel_rfl) (by decide) (by kernel_rfl) hS (fun K hK => ?_)
                    simp only [Mix.pick]
                    repeat (go_big_quiet_step (fail))
                    refine wpQuiet_nil (hK _ ?_)
                    clear hK K
                    refine MixH.one [false, false, false, false, false, false, false, false, false, false, false, false, false, true] 1 13 _ rfl rfl (by kernel_rfl) (by kernel_rfl) (fun K hK => ?_)
                    simp only [Mix.pick]
                    refine wpList_store_sdv (.tmp 21) (.tmp 125) rfl rfl B21 sz0 ⟨some ⟨e.P, 0, none⟩, v5⟩ rfl rfl HX21.out rfl ?_
                    intro xs hs9 ks9
                    refine wpList_nil ?_
                    have HQ : Hid ((QN W0.heap.size xs (S.set k ⟨e.P, e.G, ms5, t5, v5, rs5⟩) ∧ GL 4 sdL 69 xs W0.heap.size (.slice (some ⟨gs, 0, none⟩) sl sc) (S.map QE.sv) ∧ Below W0.heap.size W0 xs) ∧ SdvAt xs B21 ⟨some ⟨e.P, 0, none⟩, v5⟩) := by
                      have h1 := HGB.out
                      exact ⟨⟨HP.out.1.ks ks9 HX21.out (by decide) (by decide) (by decide) (by decide) (by decide), HP.out.2.1.ch ks9 (fun q hq => by simp [Value.ownBlock] at hq; omega), HP.out.2.2.trans (ks9.below (fun q hq => by omega) HP.out.2.2.size)⟩, hs9⟩
                    replace hS : Below W0.heap.size W0 xs ∧ xs.rangeAt gs (k * 4) (sdA ⟨some ⟨e.P, 0, none⟩, e.v⟩).toList := ⟨HQ.out.1.2.2, HQ.out.1.2.1.range sdL_len k ⟨some ⟨e.P, 0, none⟩, e.v⟩ (by rw [List.getElem?_map, HE.out.1]; rfl)⟩
                    clear hs9 ks9 HP HX21
                    refine ⟨rfl, hK _ _ hS ?_⟩
                    clear hK K
                    refine MixH.takes [false, false, false, false, false, false, false, false, false, false, false, false, false, false, true] 0 (by kernel_rfl) (by kernel_rfl) (by decide) (by kernel_rfl) hS (fun K hK => ?_)
                    simp only [Mix.pick]
                    repeat (go_big_quiet_step (fail))
                    refine wpQuiet_nil (hK _ ?_)
                    clear hK K
                    refine MixH.done (by kernel_rfl) ?_
                    clear hS
                    go_wp2_with (first | (refine wpList_load_sdv (.tmp 21) rfl B21 ⟨some ⟨e.P, 0, none⟩, v5⟩ rfl HQ.out.2 rfl ?_) | (refine wpList_setG sdL_len sdL_one 69 info_sd (.tmp 132) (.tmp 131) rfl rfl W0.heap.size gs sl sc (S.map QE.sv) k (k * 4) ⟨some ⟨e.P, 0, none⟩, v5⟩ rfl rfl rfl HQ.out.1.2.1 HE.out.2.1 rfl ?_))
                    intro xt glt kt
                    have HT2 : Hid (QN W0.heap.size xt (S.set k ⟨e.P, e.G, ms5, t5, v5, rs5⟩) ∧ GL 4 sdL 69 xt W0.heap.size (.slice (some ⟨gs, 0, none⟩) sl sc) ((S.set k ⟨e.P, e.G, ms5, t5, v5, rs5⟩).map QE.sv) ∧ Below W0.heap.size W0 xt ∧ (S.set k ⟨e.P, e.G, ms5, t5, v5, rs5⟩).length = sl) := by
                      obtain ⟨hb1, _, c, h3⟩ := HQ.out.1.2.1.kind gs rfl
                      exact ⟨HQ.out.1.1.ks kt h3 (by decide) (by decide) (by decide) (by decide) (by decide), by rw [List.map_set]; exact glt, HQ.out.1.2.2.trans (kt.below (fun q hq => by subst hq; exact hb1) HQ.out.1.2.2.size), by rw [List.length_set]; exact HI.out.2.2.2⟩
                    clear glt kt HQ
                    go_wp2_with fail
                    go_roundw
                    case rel => exact ⟨k + 1, (S.set k ⟨e.P, e.G, ms5, t5, v5, rs5⟩), by have := HE.out.2.1; omega, rfl, HT2.out⟩
                    case measure => simp only [intOf]; have := HE.out.2.1; omega
                · have r1 : decide ((k : Int) < (sl : Int)) = false := decide_eq_false (by omega)
                  have r2 : decide (k < sl) = false := decide_eq_false hkl
                  clear hkl hks
                  go_wp2_with fail
                  go_roundw
                  case rel => exact ⟨i + 1, S, by have := HLT.out; omega, rfl, HI.out⟩
                  case measure => simp only [intOf]; have := HLT.out; omega
            · have p1 : decide ((i : Int) < (len : Int)) = true := decide_eq_true (by omega)
              have p2 : decide (i < len) = true := decide_eq_true hlt
              have p3 : decide ((i : Int) < 200) = false := decide_eq_false (by omega)
              have p4 : decide (i < 200) = false := decide_eq_false h200
              clear hlt hil h200
              go_wp2_with fail
              go_ret
              exact ⟨rfl, HW0.out.trans (HI.out.2.2.1.mono HW0.out.size)⟩
          · have p1 : decide ((i : Int) < (len : Int)) = false := decide_eq_false (by omega)
            have p2 : decide (i < len) = false := decide_eq_false hlt
            clear hlt hil
            go_wp2_with fail
            go_ret
            exact ⟨rfl, HW0.out.trans (HI.out.2.2.1.mono HW0.out.size)⟩
  · have q0 : decide ((0 : Int) < (n : Int)) = true := decide_eq_true (by omega)
    have q0' : decide (0 < n) = true := decide_eq_true (by omega)
    have n0 : ((n : Int) == 0) = false := beq_eq_false_iff_ne.2 (by omega)
    have hnp : 0 < n := by omega
    obtain ⟨z, hz⟩ : ∃ z, Int.tmod at' (n : Int) = z := ⟨_, rfl⟩
    have hzb : -(n : Int) < z ∧ z < (n : Int) := by
      have h1 := Int.tmod_lt_of_pos at' (show (0 : Int) < (n : Int) by omega)
      have h2 := Int.lt_tmod_of_pos at' (show (0 : Int) < (n : Int) by omega)
      omega
    obtain ⟨x0, hx0⟩ : ∃ x, ls[0]? = some x := ⟨_, List.getElem?_eq_getElem (by rw [HL.out.1]; exact hnp)⟩
    obtain ⟨g, c', hv, hbg, hgl, _⟩ := H4.out.1.at liL_len 0 x0 hx0
    simp only [Value.slice.injEq] at hv
    obtain ⟨rfl, hx1, hx2⟩ := hv
    have HGW : Hid (w.heap.size ≤ g) := Nat.le_trans H1.out.1.size hbg
    clear hx1 hx2 hx0 hbg hgl hn0 hnp
    by_cases hz0 : z < 0
    · have q1 : decide (z < 0) = true := decide_eq_true hz0
      obtain ⟨k, hk⟩ : ∃ k : Nat, (k : Int) = z + (n : Int) := ⟨(z + (n : Int)).toNat, by omega⟩
      have wz : IntKind.i64.wrap (z + (n : Int)) = (k : Int) := by rw [← hk]; exact i64_s _ (by omega) (by omega)
      have k0 : (0 : Int) ≤ (k : Int) := by omega
      have k1 : (k : Int) < (n : Int) := by omega
      have k2 : ((k : Int)).toNat = k := by omega
      have HKN : Hid (k < n) := by show _ < _; omega
      clear hk hz0 hzb
      go_upto_region 10 with (first | (refine wpList_setG liL_len liL_one 36 info_li (.tmp 44) (.tmp 43) rfl rfl w1.heap.size g n vc ls k (k * 5) ⟨64, 1, 70000, 0, 0⟩ rfl rfl rfl H4.out.1 HKN.out rfl ?_; intro w5 gl5 k5))
      obtain ⟨va, hva⟩ : ∃ va : Option Addr, va = some ⟨g, 0, none⟩ := ⟨_, rfl⟩
      obtain ⟨L5, hL5⟩ : ∃ L5, L5 = ls.set k ⟨64, 1, 70000, 0, 0⟩ := ⟨_, rfl⟩
      have H5 : Hid (GL 5 liL 36 w5 w1.heap.size (.slice va n vc) L5 ∧ L5.length = n ∧ Below w.heap.size w w5) := by
        rw [hva, hL5]
        exact ⟨gl5, by rw [List.length_set]; exact HL.out.1, H4.out.2.trans (k5.below (fun q hq => by subst hq; exact HGW.out) H4.out.2.size)⟩
      rw [← hva]
      clear gl5 k5 hva hL5 H4 hz HKN HGW
      go_upto_region 11 with (first | (refine wpList_nil_l4v rfl rfl ?_; intro BA X hB hX bX) | (refine wpList_store_l4v (.tmp 11) (.tmp 49) rfl rfl BA l4z ⟨a, n, cap, a2, n2, cap2, va, n, vc, a, n, cap⟩ rfl rfl hX rfl ?_; intro W0 h0 k0))
      have HW0 : Hid (Below w.heap.size w W0) := by
        have g1 := hB.out
        have g2 := H5.out.2.2.size
        have bb := bthen H5.out.2.2 bX
        exact bb.trans (k0.below (fun q hq => by omega) bb.size)
      have HT : Hid (ListG 5 liL (fun _ => True) W0 va L5 ∧ L5.length = n ∧ L4vAt W0 BA ⟨a, n, cap, a2, n2, cap2, va, n, vc, a, n, cap⟩) := by
        obtain ⟨va', vc', hv, hg⟩ := H5.out.1.listG (ok := fun _ => True) liL_len (fun _ _ => trivial)
        simp only [Value.slice.injEq] at hv
        obtain ⟨rfl, _, _⟩ := hv
        have g1 := hB.out
        exact ⟨hg.old (bX.trans (k0.below (fun q hq => by omega) bX.size)), H5.out.2.1, h0⟩
      clear hB hX bX h0 k0 H5
      go_upto_region 12 with (first | (refine wpList_box_rmv (.tmp 50) rfl rmz rfl rfl ?_; intro R X hB hX bX))
      have H6 : Hid (Rm W0.heap.size X R none 0 0 [] ∧ L4vAt X BA ⟨a, n, cap, a2, n2, cap2, va, n, vc, a, n, cap⟩ ∧ Below W0.heap.size W0 X) := ⟨⟨hX, GL.nil, by have g1 := hB.out; omega, by decide⟩, HT.out.2.2.below bX, bX⟩
      clear hB hX bX
      go_wp2_with fail
      go_loopw [13, 14] (fun sv iv wr => ∃ (k : Nat) (S : List QE) (sa : Option Addr) (sc : Nat) (va' : Option Addr) (vc' : Nat) (N : Int) (L : List LI), k ≤ 4 ∧ sv = .slice sa S.length sc ∧ iv = .int .i64 (k : Nat) ∧ Hid (Rm W0.heap.size wr R va' vc' N L ∧ L4vAt wr BA ⟨a, n, cap, a2, n2, cap2, va, n, vc, a, n, cap⟩ ∧ QN W0.heap.size wr S ∧ GL 4 sdL 69 wr W0.heap.size (.slice sa S.length sc) (S.map QE.sv) ∧ Below W0.heap.size W0 wr ∧ S.length ≤ k)) (fun _ iv _ => 4 - (intOf iv).toNat)
      case atStart => exact ⟨0, [], none, 0, none, 0, 0, [], by decide, rfl, rfl, H6.out.1, H6.out.2.1, QN.nil _ _, GL.nil, H6.out.2.2, by decide⟩
      case round =>
        obtain ⟨k, S, sa, sc, va', vc', N, L, hk, rfl, rfl, HI⟩ := hrel
        clear H6
        by_cases hkn : k < 4
        · have p1 : decide ((k : Int) < 4) = true := decide_eq_true (by omega)
          have k0 : (0 : Int) ≤ (k : Int) := by omega
          have k1 : (k : Int) < 4 := by omega
          have k2 : ((k : Int)).toNat = k := by omega
          have wk : IntKind.i64.wrap ((k : Int) + 1) = (k : Int) + 1 := i64_s _ (by omega) (by omega)
          have hls : ∃ ak nk ck lk, (∀ x, L4vAt x BA ⟨a, n, cap, a2, n2, cap2, va, n, vc, a, n, cap⟩ → x.cell? ⟨BA, k, none⟩ = some (.slice ak nk ck)) ∧ ListG 5 liL (fun _ => True) W0 ak lk ∧ lk.length = nk ∧ nk ≤ 1048576 := by
            have weak : ∀ {a : Option Addr} {ls : List LI}, ListG 5 liL LiW w a ls → ListG 5 liL (fun _ => True) W0 a ls := fun h => by
              rcases h.old HW0.out with h | ⟨b1, o1, h1, h2, h3⟩
              · exact .inl h
              · exact .inr ⟨b1, o1, h1, h2, fun i o ho => ⟨trivial, (h3 i o ho).2⟩⟩
            rcases (show k = 0 ∨ k = 1 ∨ k = 2 ∨ k = 3 by omega) with rfl | rfl | rfl | rfl
            · exact ⟨a, n, cap, ls, fun x hx => hx.cell 0, weak HL.out.2.1, HL.out.1, HL.out.2.2⟩
            · exact ⟨a2, n2, cap2, ls2, fun x hx => hx.cell 1, weak HL2.out.2.1, HL2.out.1, HL2.out.2.2⟩
            · exact ⟨va, n, vc, L5, fun x hx => hx.cell 2, HT.out.1, HT.out.2.1, HL.out.2.2⟩
            · exact ⟨a, n, cap, ls, fun x hx => hx.cell 3, weak HL.out.2.1, HL.out.1, HL.out.2.2⟩
          obtain ⟨ak, nk, ck, lk, hcell, hlk, hnk, hbk⟩ := hls
          have HK : Hid ((∀ x, L4vAt x BA ⟨a, n, cap, a2, n2, cap2, va, n, vc, a, n, cap⟩ → x.cell? ⟨BA, k, none⟩ = some (.slice ak nk ck)) ∧ ListG 5 liL (fun _ => True) W0 ak lk ∧ lk.length = nk ∧ nk ≤ 1048576 ∧ k < 4) := ⟨hcell, hlk, hnk, hbk, hkn⟩
          clear hcell hlk hnk hbk hkn hk
          have QY : Hid _ := lay_any W0 W0.heap.size R va' vc' N L ak nk ck lk (fun _ => True) wr HK.out.2.2.1 HK.out.2.1 HK.out.2.2.2.1 HI.out.2.2.2.2.1 (Nat.le_refl _) HI.out.1
          have d0 : wr.cell? ⟨BA, k, none⟩ = some (.slice ak nk ck) := HK.out.1 wr HI.out.2.1
          go_wp2_with fail
          refine Calls.mono QY.out ?_
          rintro e2 x2 ⟨g, gc, L', rfl, r2, m2, k3⟩
          have H2 : Hid ((Rm W0.heap.size x2 R (some ⟨g, 0, none⟩) gc (nk : Int) L' ∧ L4vAt x2 BA ⟨a, n, cap, a2, n2, cap2, va, n, vc, a, n, cap⟩ ∧ QN W0.heap.size x2 S ∧ GL 4 sdL 69 x2 W0.heap.size (.slice sa S.length sc) (S.map QE.sv) ∧ Below W0.heap.size W0 x2) ∧ Marks lk L' ∧ S.length ≤ k) := ⟨⟨r2, HI.out.2.1.rb k3, HI.out.2.2.1.rb k3, HI.out.2.2.2.1.rbs k3, HI.out.2.2.2.2.1.trans (k3.below (fun q hq => hq.1) HI.out.2.2.2.2.1.size)⟩, m2, HI.out.2.2.2.2.2⟩
          clear r2 m2 k3 QY d0 HI
          have QW : Hid _ := newM (some ⟨g, 0, none⟩) nk gc lk (fun _ => True) x2 HK.out.2.2.1 (H2.out.1.1.list H2.out.2.1) (by have h1 := HK.out.2.2.2.1; omega)
          go_wp2_with fail
          refine Calls.mono QW.out ?_
          rintro e3 x3 ⟨q, en, rfl, m3, b3⟩
          have H3 : Hid ((Rm W0.heap.size x3 R (some ⟨g, 0, none⟩) gc (nk : Int) L' ∧ L4vAt x3 BA ⟨a, n, cap, a2, n2, cap2, va, n, vc, a, n, cap⟩ ∧ QN W0.heap.size x3 S ∧ GL 4 sdL 69 x3 W0.heap.size (.slice sa S.length sc) (S.map QE.sv) ∧ Below W0.heap.size W0 x3) ∧ MN x2.heap.size x3 lk q en) := ⟨⟨H2.out.1.1.below b3, H2.out.1.2.1.below b3, H2.out.1.2.2.1.below b3, H2.out.1.2.2.2.1.below b3, H2.out.1.2.2.2.2.trans (b3.mono H2.out.1.2.2.2.2.size)⟩, m3⟩
          clear b3 m3 QW
          have QT : Hid _ := stand_any W0 W0.heap.size R g gc L' ak nk ck lk (fun _ => True) x3 HK.out.2.2.1 HK.out.2.1 H3.out.1.2.2.2.2 H2.out.2.1 H3.out.1.1
          have d0 : x3.cell? ⟨BA, k, none⟩ = some (.slice ak nk ck) := HK.out.1 x3 H3.out.1.2.1
          go_wp2_with fail
          refine Calls.mono QT.out ?_
          rintro e4 x4 ⟨rfl, b4⟩
          have H4 : Hid ((Rm W0.heap.size x4 R (some ⟨g, 0, none⟩) gc (nk : Int) L' ∧ L4vAt x4 BA ⟨a, n, cap, a2, n2, cap2, va, n, vc, a, n, cap⟩ ∧ QN W0.heap.size x4 S ∧ GL 4 sdL 69 x4 W0.heap.size (.slice sa S.length sc) (S.map QE.sv) ∧ Below W0.heap.size W0 x4) ∧ MN x2.heap.size x4 lk q en) := ⟨⟨H3.out.1.1.below b4, H3.out.1.2.1.below b4, H3.out.1.2.2.1.below b4, H3.out.1.2.2.2.1.below b4, H3.out.1.2.2.2.2.trans (b4.mono H3.out.1.2.2.2.2.size)⟩, H3.out.2.below b4⟩
          clear b4 QT d0 H3
          have QR : Hid _ := newRM _ x4 q en ak nk ck lk (fun _ => True) x4 HK.out.2.2.1 (HK.out.2.1.old H4.out.1.2.2.2.2) H4.out.2
          have d0 : x4.cell? ⟨BA, k, none⟩ = some (.slice ak nk ck) := HK.out.1 x4 H4.out.1.2.1
          go_wp2_with fail
          refine Calls.mono QR.out ?_
          rintro e5 x5 ⟨v, rfl, m5, b5⟩
          have H5 : Hid ((Rm W0.heap.size x5 R (some ⟨g, 0, none⟩) gc (nk : Int) L' ∧ L4vAt x5 BA ⟨a, n, cap, a2, n2, cap2, va, n, vc, a, n, cap⟩ ∧ QN W0.heap.size x5 S ∧ GL 4 sdL 69 x5 W0.heap.size (.slice sa S.length sc) (S.map QE.sv) ∧ Below W0.heap.size W0 x5) ∧ MN x2.heap.size x5 lk q en ∧ MR x5 lk v) := ⟨⟨H4.out.1.1.below b5, H4.out.1.2.1.below b5, H4.out.1.2.2.1.below b5, H4.out.1.2.2.2.1.below b5, H4.out.1.2.2.2.2.trans (b5.mono H4.out.1.2.2.2.2.size)⟩, H4.out.2.below b5, m5⟩
          clear b5 m5 QR d0 H4
          go_upto_region 20 with (first | (refine wpList_nil_rqv rfl rfl ?_; intro B7 X hB7 hX bX) | (refine wpList_store_rqv (.tmp 17) (.tmp 76) rfl rfl B7 qz v rfl rfl hX rfl ?_; intro x6 h6 k6))
          have H6 : Hid ((Rm W0.heap.size x6 R (some ⟨g, 0, none⟩) gc (nk : Int) L' ∧ L4vAt x6 BA ⟨a, n, cap, a2, n2, cap2, va, n, vc, a, n, cap⟩ ∧ QN W0.heap.size x6 S ∧ GL 4 sdL 69 x6 W0.heap.size (.slice sa S.length sc) (S.map QE.sv) ∧ Below W0.heap.size W0 x6) ∧ MN x2.heap.size x6 lk q en ∧ MR x6 lk v ∧ RqvAt x6 B7 v) := by
            have h1 := hB7.out
            have h2 := H5.out.1.2.2.2.2.size
            refine ⟨⟨(H5.out.1.1.below bX).ks k6 hX (by decide) (by decide), (H5.out.1.2.1.below bX).ch k6 (by have := (Array.getElem?_eq_some_iff.1 H5.out.1.2.1).1; omega), (H5.out.1.2.2.1.below bX).ks k6 hX (by decide) (by decide) (by decide) (by decide) (by decide), (H5.out.1.2.2.2.1.below bX).kss k6 hX (by decide), ?_⟩, (H5.out.2.1.below bX).ks k6 hX (by decide) (by decide) (by decide), (H5.out.2.2.below bX).ks k6 hX (by decide) (by decide), h6⟩
            have bb : Below W0.heap.size W0 X := H5.out.1.2.2.2.2.trans (bX.mono H5.out.1.2.2.2.2.size)
            exact bb.trans (k6.below (fun q hq => by omega) bb.size)
          clear hB7 hX bX h6 k6 H5
          have QU : Hid _ := num_any en x6
          go_wp2_with fail
          refine Calls.mono QU.out ?_
          rintro e7 x7 ⟨rfl, rfl⟩
          clear QU
          have hM := H6.out.2.1
          have HNB : Hid (∀ x ∈ S, ∀ q, QB x.P x.G x.ms q → q < x2.heap.size) := fun x hx q hq => (H2.out.1.2.2.1.q x hx).qa.lt q hq
          have HW2 : Hid (W0.heap.size ≤ x2.heap.size) := H2.out.1.2.2.2.2.size
          have HSk : Hid (S.length ≤ k ∧ k < 4) := ⟨H2.out.2.2, HK.out.2.2.2.2⟩
          clear H2 HK
          rcases hM with ⟨hnb, rfl, P, G, rfl, hq, hP, hG⟩ | ⟨hnb, rfl, rfl⟩
          · have HE : Hid (QQ x6 P G (lk.map mk) tz ∧ x2.heap.size ≤ P ∧ x2.heap.size ≤ G ∧ AL x6 v (c0s lk) tz (lk.map rmk)) := ⟨hq, hP, hG, H6.out.2.2.1 hnb⟩
            clear hnb hq hP hG
            go_wp2_with (first | (refine wpList_load_rqv (.tmp 17) rfl B7 v rfl H6.out.2.2.2 rfl ?_) | (refine wpList_bsd (.tmp 92) (.tmp 93) rfl (some ⟨P, 0, none⟩) v rfl rfl rfl ?_) | (refine wpList_bs1s (.tmp 94) rfl ⟨some ⟨P, 0, none⟩, v⟩ rfl rfl ?_; intro B8 X hB8 hX bX) | (refine wpList_app1G sdL_len sdL_one (by decide) rfl (.tmp 91) (.tmp 95) 78 69 rfl Try.underlying78 info_sd W0.heap.size (.slice sa S.length sc) (S.map QE.sv) rfl (H6.out.1.2.2.2.1.below bX) B8 1 ⟨some ⟨P, 0, none⟩, v⟩ rfl (by have h1 := hB8.out; omega) hX (by rw [List.length_map]; have h1 := HSk.out; omega) (by have h1 := hB8.out; have h2 := H6.out.1.2.2.2.2.size; omega) ?_))
            intro v9 x9 gl9 g9 _
            obtain ⟨sa9, sc9, hv9⟩ := gl9.form
            rw [List.length_append, List.length_map, List.length_singleton] at hv9
            subst hv9
            obtain ⟨en, hen⟩ : ∃ en : QE, en = ⟨P, G, lk.map mk, tz, v, lk.map rmk⟩ := ⟨_, rfl⟩
            have H9 : Hid (Rm W0.heap.size x9 R (some ⟨g, 0, none⟩) gc (nk : Int) L' ∧ L4vAt x9 BA ⟨a, n, cap, a2, n2, cap2, va, n, vc, a, n, cap⟩ ∧ QN W0.heap.size x9 (S ++ [en]) ∧ GL 4 sdL 69 x9 W0.heap.size (.slice sa9 (S ++ [en]).length sc9) ((S ++ [en]).map QE.sv) ∧ Below W0.heap.size W0 x9 ∧ (S ++ [en]).length ≤ k + 1) := by
              have gX := H6.out.1.2.2.2.1.below bX
              have k9 := Ch.ofGrown g9
              have k9' : Ch (fun q => (Value.slice sa S.length sc).ownBlock = some q) X x9 := k9
              have qa : QN W0.heap.size x6 (S ++ [en]) := by
                rw [hen]
                exact H6.out.1.2.2.1.add ⟨P, G, lk.map mk, tz, v, lk.map rmk⟩ HE.out.1 (by show AL x6 v (csOf (lk.map mk)) tz (lk.map rmk); rw [csOf_mk]; exact HE.out.2.2.2) x2.heap.size HNB.out (mk_out HE.out.2.1 HE.out.2.2.1) HW2.out
              have bb : Below W0.heap.size W0 X := H6.out.1.2.2.2.2.trans (bX.mono H6.out.1.2.2.2.2.size)
              refine ⟨(H6.out.1.1.below bX).own gX k9', (H6.out.1.2.1.below bX).ch k9' (own_ne gX (H6.out.1.2.1.below bX) (by decide)), (qa.below bX).own gX k9', ?_, bb.trans (k9'.below (fun q hq => (gX.kind q hq).1) bb.size), by rw [List.length_append]; have := HSk.out; simp; omega⟩
              rw [List.map_append, List.length_append, List.length_singleton, hen]
              exact gl9
            have HLE : Hid ((S ++ [en]).length = S.length + 1) := by show _ = _; rw [List.length_append, List.length_singleton]
            rw [← HLE.out]
            clear gl9 g9 hB8 hX bX hen HE H6
            go_wp2_with fail
            go_roundw
            case rel => exact ⟨k + 1, S ++ [en], sa9, sc9, _, _, _, _, by have := HSk.out; omega, rfl, rfl, H9.out⟩
            case measure => simp only [intOf]; have := HSk.out; omega
          · go_wp2_with fail
            go_roundw
            case rel => exact ⟨k + 1, S, sa, sc, _, _, _, _, by have := HSk.out; omega, rfl, rfl, H6.out.1.1, H6.out.1.2.1, H6.out.1.2.2.1, H6.out.1.2.2.2.1, H6.out.1.2.2.2.2, by have := HSk.out; omega⟩
            case measure => simp only [intOf]; have := HSk.out; omega
        · have p1 : decide ((k : Int) < 4) = false := decide_eq_false (by omega)
          have HK4 : Hid (k ≤ 4) := hk
          clear hkn hk
          have QY : Hid _ := lay_any W0 W0.heap.size R va' vc' N L none 0 0 [] LiW wr rfl (.inl rfl) (by decide) HI.out.2.2.2.2.1 (Nat.le_refl _) HI.out.1
          go_wp2_with fail
          refine Calls.mono QY.out ?_
          rintro e2 x2 ⟨g, gc, L', rfl, _, _, k2⟩
          obtain ⟨sl, hsl⟩ : ∃ sl, S.length = sl := ⟨_, rfl⟩
          have H2 : Hid (QN W0.heap.size x2 S ∧ GL 4 sdL 69 x2 W0.heap.size (.slice sa sl sc) (S.map QE.sv) ∧ Below W0.heap.size W0 x2 ∧ S.length = sl ∧ sl ≤ 4) := ⟨HI.out.2.2.1.rb k2, by rw [← hsl]; exact HI.out.2.2.2.1.rbs k2, HI.out.2.2.2.2.1.trans (k2.below (fun q hq => hq.1) HI.out.2.2.2.2.1.size), hsl, by have h1 := HI.out.2.2.2.2.2; have h2 := HK4.out; omega⟩
          have hsl4 : sl ≤ 4 := H2.out.2.2.2.2
          rw [hsl]
          clear k2 QY hsl HI
          go_wp2_with fail
          go_loopw [19] (fun iv wr => ∃ (i : Nat) (S : List QE), i ≤ len ∧ iv = .int .i64 (i : Nat) ∧ Hid (QN W0.heap.size wr S ∧ GL 4 sdL 69 wr W0.heap.size (.slice sa sl sc) (S.map QE.sv) ∧ Below W0.heap.size W0 wr ∧ S.length = sl)) (fun iv _ => len - (intOf iv).toNat)
          case atStart => exact ⟨0, S, Nat.zero_le _, rfl, H2.out.1, H2.out.2.1, H2.out.2.2.1, H2.out.2.2.2.1⟩
          case round =>
            obtain ⟨i, S, hil, rfl, HI⟩ := hrel
            clear H2
            by_cases hlt : i < len
            · by_cases h200 : i < 200
              · have p1 : decide ((i : Int) < (len : Int)) = true := decide_eq_true (by omega)
                have p2 : decide (i < len) = true := decide_eq_true hlt
                have p3 : decide ((i : Int) < 200) = true := decide_eq_true (by omega)
                have i0 : (0 : Int) ≤ (i : Int) := by omega
                have i1 : (i : Int) < (len : Int) := by omega
                have i2 : ((i : Int)).toNat = i := by omega
                have wi : IntKind.i64.wrap ((i : Int) + 1) = (i : Int) + 1 := i64_s _ (by omega) (by omega)
                have HLT : Hid (i < len) := hlt
                clear hil hlt h200
                go_wp2_with fail
                go_loopw [20] (fun iv wr => ∃ (k : Nat) (S : List QE), k ≤ sl ∧ iv = .int .i64 (k : Nat) ∧ Hid (QN W0.heap.size wr S ∧ GL 4 sdL 69 wr W0.heap.size (.slice sa sl sc) (S.map QE.sv) ∧ Below W0.heap.size W0 wr ∧ S.length = sl)) (fun iv _ => sl - (intOf iv).toNat)
                case atStart => exact ⟨0, S, Nat.zero_le _, rfl, HI.out⟩
                case round =>
                  obtain ⟨k, S, hks, rfl, HI⟩ := hrel
                  by_cases hkl : k < sl
                  · have r1 : decide ((k : Int) < (sl : Int)) = true := decide_eq_true (by omega)
                    have r2 : decide (k < sl) = true := decide_eq_true hkl
                    have k0 : (0 : Int) ≤ (k : Int) := by omega
                    have k1 : (k : Int) < (sl : Int) := by omega
                    have k2 : ((k : Int)).toNat = k := by omega
                    have wk : IntKind.i64.wrap ((k : Int) + 1) = (k : Int) + 1 := i64_s _ (by omega) (by omega)
                    obtain ⟨e, he⟩ : ∃ e, S[k]? = some e := ⟨_, List.getElem?_eq_getElem (by rw [HI.out.2.2.2]; exact hkl)⟩
                    obtain ⟨gs, c', hv, hbg, hgl, _⟩ := HI.out.2.1.at sdL_len k e.sv (by rw [List.getElem?_map, he]; rfl)
                    simp only [Value.slice.injEq] at hv
                    obtain ⟨rfl, hx1, hx2⟩ := hv
                    clear hx1 hx2
                    obtain ⟨kd, tw, cl, sz, it, g0, off, hbo, hrg⟩ := op_at' HS.out.1 HW0.out i (by rw [HS.out.2.1]; exact HLT.out)
                    subst hbo
                    have HR0 : Hid (W0.rangeAt g0 (off + i * 5) (opC ⟨kd, tw, cl, sz, it⟩).toList) := hrg
                    have HE : Hid (S[k]? = some e ∧ k < sl ∧ k < S.length) := ⟨he, hkl, by rw [HI.out.2.2.2]; exact hkl⟩
                    clear he hrg hkl hks hbg hgl
                    go_upto_region 31 with fail
                    refine MixH.start (fun A => Below W0.heap.size W0 A ∧ A.rangeAt gs (k * 4) (sdA ⟨some ⟨e.P, 0, none⟩, e.v⟩).toList) (by kernel_rfl) ?_
                    obtain ⟨wA, hwA⟩ : ∃ W_, W_ = wr.drew := ⟨_, rfl⟩
                    have bdr : Below wr.heap.size wr wA := by rw [hwA]; exact (Below.refl _ _).drew
                    have HV : Hid (QN W0.heap.size wA S ∧ GL 4 sdL 69 wA W0.heap.size (.slice (some ⟨gs, 0, none⟩) sl sc) (S.map QE.sv) ∧ Below W0.heap.size W0 wA) := ⟨HI.out.1.below bdr, HI.out.2.1.below bdr, HI.out.2.2.1.trans (bdr.mono HI.out.2.2.1.size)⟩
                    have hS : Below W0.heap.size W0 wA ∧ wA.rangeAt gs (k * 4) (sdA ⟨some ⟨e.P, 0, none⟩, e.v⟩).toList := ⟨HV.out.2.2, HV.out.2.1.range sdL_len k ⟨some ⟨e.P, 0, none⟩, e.v⟩ (by rw [List.getElem?_map, HE.out.1]; rfl)⟩
                    rw [← hwA]
                    clear hwA bdr
                    refine MixH.takes [true, true, true, false, true, true, true] 9 (by kernel_rfl) (by kernel_rfl) (by decide) (by kernel_rfl) hS (fun K hK => ?_)
                    simp only [Mix.pick]
                    repeat (go_big_quiet_step (fail))
                    refine wpQuiet_nil (hK _ ?_)
                    clear hK K
                    refine MixH.take 8 3 _ (.agg (sdA ⟨some ⟨e.P, 0, none⟩, e.v⟩)) rfl (by kernel_rfl) (by kernel_rfl) (by kernel_rfl) (by kernel_rfl) (yields_sdv (.tmp 118) rfl gs (k * 4) ⟨some ⟨e.P, 0, none⟩, e.v⟩ rfl rfl (fun A hA => hA.2)) hS (fun a' ha => ?_)
                    simp only [Act.put, List.setIfInBounds_toArray, List.set_cons_succ, List.set_cons_zero] at ha
                    subst ha
                    refine MixH.take 7 7 _ (.agg (opC ⟨kd, tw, cl, sz, it⟩)) rfl (by kernel_rfl) (by kernel_rfl) (by kernel_rfl) (by kernel_rfl) (yields_opv (.tmp 122) rfl g0 (off + i * 5) ⟨kd, tw, cl, sz, it⟩ rfl rfl (fun A hA => range_below HR0.out hA.1)) hS (fun a' ha => ?_)
                    simp only [Act.put, List.setIfInBounds_toArray, List.set_cons_succ, List.set_cons_zero] at ha
                    subst ha
                    refine MixH.pair [false, false, false, false, false, false, false, false, true] [false, false, false, false, false, false, false, false, false, false, false, false, true] 6 8 12 _ _ rfl rfl rfl rfl (by kernel_rfl) (by kernel_rfl) (fun K hK => ?_) (fun K hK => ?_)
                    · simp only [Mix.pick]
                      have QS : Hid _ := step_any (undN W0 S k e.P e.G) e.v e.rs (csOf e.ms) e.t kd cl sz it tw wA (HV.out.1.toJ HV.out.2.2 HE.out.1) (HV.out.1.al e (List.mem_of_getElem? HE.out.1))
                      go_wp2_with fail
                      refine Calls.mono (QS.out) ?_
                      rintro e5 x8 ⟨v5, rs5, cs5, t5, rfl, j5, a5, k5⟩
                      obtain ⟨ms5, n5, b5⟩ := HV.out.1.ofJ k5 HE.out.2.2 j5 a5
                      have HP : Hid (QN W0.heap.size x8 (S.set k ⟨e.P, e.G, ms5, t5, v5, rs5⟩) ∧ GL 4 sdL 69 x8 W0.heap.size (.slice (some ⟨gs, 0, none⟩) sl sc) (S.map QE.sv) ∧ Below W0.heap.size W0 x8) := ⟨n5, HV.out.2.1.kps k5, b5⟩
                      replace hS : Below W0.heap.size W0 x8 ∧ x8.rangeAt gs (k * 4) (sdA ⟨some ⟨e.P, 0, none⟩, e.v⟩).toList := ⟨b5, HP.out.2.1.range sdL_len k ⟨some ⟨e.P, 0, none⟩, e.v⟩ (by rw [List.getElem?_map, HE.out.1]; rfl)⟩
                      clear n5 b5 j5 a5 k5 QS HV
                      go_wp2_with fail
                      refine ⟨rfl, hK _ _ hS ?_⟩
                      clear hK K
                      refine MixH.takes [false, false, false, false, false, false, false, false, false, true, true, true] 3 (by kernel_rfl) (by kernel_rfl) (by decide) (by kernel_rfl) hS (fun K hK => ?_)
                      simp only [Mix.pick]
                      repeat (go_big_quiet_step (fail))
                      refine wpQuiet_nil (hK _ ?_)
                      clear hK K
                      refine MixH.one [false, false, false, false, false, false, false, false, false, false, false, false, true] 2 12 _ rfl rfl (by kernel_rfl) (by kernel_rfl) (fun K hK => ?_)
                      simp only [Mix.pick]
                      refine wpList_nil_sdv rfl rfl ?_
                      intro B21 xb hB21 hX21 bX21
                      go_wp2_with fail
                      have H_ : Hid (QN W0.heap.size xb (S.set k ⟨e.P, e.G, ms5, t5, v5, rs5⟩) ∧ GL 4 sdL 69 xb W0.heap.size (.slice (some ⟨gs, 0, none⟩) sl sc) (S.map QE.sv) ∧ Below W0.heap.size W0 xb) := ⟨HP.out.1.below bX21, HP.out.2.1.below bX21, HP.out.2.2.trans (bX21.mono HP.out.2.2.size)⟩
                      have HGB : Hid (gs < B21 ∧ W0.heap.size ≤ B21) := by
                        have h1 := (HP.out.2.1.kind gs rfl).2.1
                        have h2 := hB21.out
                        have h3 := HP.out.2.2.size
                        exact ⟨by omega, by omega⟩
                      replace hS : Below W0.heap.size W0 xb ∧ xb.rangeAt gs (k * 4) (sdA ⟨some ⟨e.P, 0, none⟩, e.v⟩).toList := ⟨H_.out.2.2, range_below hS.2 bX21⟩
                      have HX21 : Hid (SdvAt xb B21 sz0) := hX21
                      clear HP hX21 bX21 hB21
                      have HP : Hid _ := H_.out
                      clear H_
                      refine ⟨rfl, hK _ _ hS ?_⟩
                      clear hK K
                      refine MixH.one [false, false, false, false, false, false, false, false, false, false, false, false, false, true] 1 13 _ rfl rfl (by kernel_rfl) (by kernel_rfl) (fun K hK => ?_)
                      simp only [Mix.pick]
                      refine wpList_store_sdv (.tmp 21) (.tmp 125) rfl rfl B21 sz0 ⟨some ⟨e.P, 0, none⟩, v5⟩ rfl rfl HX21.out rfl ?_
                      intro xs hs9 ks9
                      refine wpList_nil ?_
                      have HQ : Hid ((QN W0.heap.size xs (S.set k ⟨e.P, e.G, ms5, t5, v5, rs5⟩) ∧ GL 4 sdL 69 xs W0.heap.size (.slice (some ⟨gs, 0, none⟩) sl sc) (S.map QE.sv) ∧ Below W0.heap.size W0 xs) ∧ SdvAt xs B21 ⟨some ⟨e.P, 0, none⟩, v5⟩) := by
                        have h1 := HGB.out
                        exact ⟨⟨HP.out.1.ks ks9 HX21.out (by decide) (by decide) (by decide) (by decide) (by decide), HP.out.2.1.ch ks9 (fun q hq => by simp [Value.ownBlock] at hq; omega), HP.out.2.2.trans (ks9.below (fun q hq => by omega) HP.out.2.2.size)⟩, hs9⟩
                      replace hS : Below W0.heap.size W0 xs ∧ xs.rangeAt gs (k * 4) (sdA ⟨some ⟨e.P, 0, none⟩, e.v⟩).toList := ⟨HQ.out.1.2.2, HQ.out.1.2.1.range sdL_len k ⟨some ⟨e.P, 0, none⟩, e.v⟩ (by rw [List.getElem?_map, HE.out.1]; rfl)⟩
                      clear hs9 ks9 HP HX21
                      refine ⟨rfl, hK _ _ hS ?_⟩
                      clear hK K
                      refine MixH.takes [false, false, false, false, false, false, false, false, false, false, false, false, false, false, true] 0 (by kernel_rfl) (by kernel_rfl) (by decide) (by kernel_rfl) hS (fun K hK => ?_)
                      simp only [Mix.pick]
                      repeat (go_big_quiet_step (fail))
                      refine wpQuiet_nil (hK _ ?_)
                      clear hK K
                      refine MixH.done (by kernel_rfl) ?_
                      clear hS
                      go_wp2_with (first | (refine wpList_load_sdv (.tmp 21) rfl B21 ⟨some ⟨e.P, 0, none⟩, v5⟩ rfl HQ.out.2 rfl ?_) | (refine wpList_setG sdL_len sdL_one 69 info_sd (.tmp 132) (.tmp 131) rfl rfl W0.heap.size gs sl sc (S.map QE.sv) k (k * 4) ⟨some ⟨e.P, 0, none⟩, v5⟩ rfl rfl rfl HQ.out.1.2.1 HE.out.2.1 rfl ?_))
                      intro xt glt kt
                      have HT2 : Hid (QN W0.heap.size xt (S.set k ⟨e.P, e.G, ms5, t5, v5, rs5⟩) ∧ GL 4 sdL 69 xt W0.heap.size (.slice (some ⟨gs, 0, none⟩) sl sc) ((S.set k ⟨e.P, e.G, ms5, t5, v5, rs5⟩).map QE.sv) ∧ Below W0.heap.size W0 xt ∧ (S.set k ⟨e.P, e.G, ms5, t5, v5, rs5⟩).length = sl) := by
                        obtain ⟨hb1, _, c, h3⟩ := HQ.out.1.2.1.kind gs rfl
                        exact ⟨HQ.out.1.1.ks kt h3 (by decide) (by decide) (by decide) (by decide) (by decide), by rw [List.map_set]; exact glt, HQ.out.1.2.2.trans (kt.below (fun q hq => by subst hq; exact hb1) HQ.out.1.2.2.size), by rw [List.length_set]; exact HI.out.2.2.2⟩
                      clear glt kt HQ
                      go_wp2_with fail
                      go_roundw
                      case rel => exact ⟨k + 1, (S.set k ⟨e.P, e.G, ms5, t5, v5, rs5⟩), by have := HE.out.2.1; omega, rfl, HT2.out⟩
                      case measure => simp only [intOf]; have := HE.out.2.1; omega
                    · simp only [Mix.pick]
                      refine wpList_nil_sdv rfl rfl ?_
                      intro B21 xb hB21 hX21 bX21
                      go_wp2_with fail
                      have H_ : Hid (QN W0.heap.size xb S ∧ GL 4 sdL 69 xb W0.heap.size (.slice (some ⟨gs, 0, none⟩) sl sc) (S.map QE.sv) ∧ Below W0.heap.size W0 xb) := ⟨HV.out.1.below bX21, HV.out.2.1.below bX21, HV.out.2.2.trans (bX21.mono HV.out.2.2.size)⟩
                      have HGB : Hid (gs < B21 ∧ W0.heap.size ≤ B21) := by
                        have h1 := (HV.out.2.1.kind gs rfl).2.1
                        have h2 := hB21.out
                        have h3 := HV.out.2.2.size
                        exact ⟨by omega, by omega⟩
                      replace hS : Below W0.heap.size W0 xb ∧ xb.rangeAt gs (k * 4) (sdA ⟨some ⟨e.P, 0, none⟩, e.v⟩).toList := ⟨H_.out.2.2, range_below hS.2 bX21⟩
                      have HBX : Hid (SdvAt xb B21 sz0) := hX21
                      clear HV hX21 bX21 hB21
                      have HV : Hid _ := H_.out
                      clear H_
                      refine ⟨rfl, hK _ _ hS ?_⟩
                      clear hK K
                      refine MixH.one [false, false, false, false, false, false, false, false, true] 5 8 _ rfl rfl (by kernel_rfl) (by kernel_rfl) (fun K hK => ?_)
                      simp only [Mix.pick]
                      have QS : Hid _ := step_any (undN W0 S k e.P e.G) e.v e.rs (csOf e.ms) e.t kd cl sz it tw xb (HV.out.1.toJ HV.out.2.2 HE.out.1) (HV.out.1.al e (List.mem_of_getElem? HE.out.1))
                      go_wp2_with fail
                      refine Calls.mono (QS.out) ?_
                      rintro e5 x8 ⟨v5, rs5, cs5, t5, rfl, j5, a5, k5⟩
                      obtain ⟨ms5, n5, b5⟩ := HV.out.1.ofJ k5 HE.out.2.2 j5 a5
                      have HP : Hid (QN W0.heap.size x8 (S.set k ⟨e.P, e.G, ms5, t5, v5, rs5⟩) ∧ GL 4 sdL 69 x8 W0.heap.size (.slice (some ⟨gs, 0, none⟩) sl sc) (S.map QE.sv) ∧ Below W0.heap.size W0 x8) := ⟨n5, HV.out.2.1.kps k5, b5⟩
                      have HX21 : Hid (SdvAt x8 B21 sz0) := HBX.out.kp k5
                      replace hS : Below W0.heap.size W0 x8 ∧ x8.rangeAt gs (k * 4) (sdA ⟨some ⟨e.P, 0, none⟩, e.v⟩).toList := ⟨b5, HP.out.2.1.range sdL_len k ⟨some ⟨e.P, 0, none⟩, e.v⟩ (by rw [List.getElem?_map, HE.out.1]; rfl)⟩
                      clear n5 b5 j5 a5 k5 QS HV
                      go_wp2_with fail
                      refine ⟨rfl, hK _ _ hS ?_⟩
                      clear hK K
                      refine MixH.takes [false, false, false, false, false, false, false, false, false, true, true, true] 2 (by kernel_rfl) (by kernel_rfl) (by decide) (by kernel_rfl) hS (fun K hK => ?_)
                      simp only [Mix.pick]
                      repeat (go_big_quiet_step (fail))
                      refine wpQuiet_nil (hK _ ?_)
                      clear hK K
                      refine MixH.one [false, false, false, false, false, false, false, false, false, false, false, false, false, true] 1 13 _ rfl rfl (by kernel_rfl) (by kernel_rfl) (fun K hK => ?_)
                      simp only [Mix.pick]
                      refine wpList_store_sdv (.tmp 21) (.tmp 125) rfl rfl B21 sz0 ⟨some ⟨e.P, 0, none⟩, v5⟩ rfl rfl HX21.out rfl ?_
                      intro xs hs9 ks9
                      refine wpList_nil ?_
                      have HQ : Hid ((QN W0.heap.size xs (S.set k ⟨e.P, e.G, ms5, t5, v5, rs5⟩) ∧ GL 4 sdL 69 xs W0.heap.size (.slice (some ⟨gs, 0, none⟩) sl sc) (S.map QE.sv) ∧ Below W0.heap.size W0 xs) ∧ SdvAt xs B21 ⟨some ⟨e.P, 0, none⟩, v5⟩) := by
                        have h1 := HGB.out
                        exact ⟨⟨HP.out.1.ks ks9 HX21.out (by decide) (by decide) (by decide) (by decide) (by decide), HP.out.2.1.ch ks9 (fun q hq => by simp [Value.ownBlock] at hq; omega), HP.out.2.2.trans (ks9.below (fun q hq => by omega) HP.out.2.2.size)⟩, hs9⟩
                      replace hS : Below W0.heap.size W0 xs ∧ xs.rangeAt gs (k * 4) (sdA ⟨some ⟨e.P, 0, none⟩, e.v⟩).toList := ⟨HQ.out.1.2.2, HQ.out.1.2.1.range sdL_len k ⟨some ⟨e.P, 0, none⟩, e.v⟩ (by rw [List.getElem?_map, HE.out.1]; rfl)⟩
                      clear hs9 ks9 HP HX21
                      refine ⟨rfl, hK _ _ hS ?_⟩
                      clear hK K
                      refine MixH.takes [false, false, false, false, false, false, false, false, false, false, false, false, false, false, true] 0 (by kernel_rfl) (by kernel_rfl) (by decide) (by kernel_rfl) hS (fun K hK => ?_)
                      simp only [Mix.pick]
                      repeat (go_big_quiet_step (fail))
                      refine wpQuiet_nil (hK _ ?_)
                      clear hK K
                      refine MixH.done (by kernel_rfl) ?_
                      clear hS
                      go_wp2_with (first | (refine wpList_load_sdv (.tmp 21) rfl B21 ⟨some ⟨e.P, 0, none⟩, v5⟩ rfl HQ.out.2 rfl ?_) | (refine wpList_setG sdL_len sdL_one 69 info_sd (.tmp 132) (.tmp 131) rfl rfl W0.heap.size gs sl sc (S.map QE.sv) k (k * 4) ⟨some ⟨e.P, 0, none⟩, v5⟩ rfl rfl rfl HQ.out.1.2.1 HE.out.2.1 rfl ?_))
                      intro xt glt kt
                      have HT2 : Hid (QN W0.heap.size xt (S.set k ⟨e.P, e.G, ms5, t5, v5, rs5⟩) ∧ GL 4 sdL 69 xt W0.heap.size (.slice (some ⟨gs, 0, none⟩) sl sc) ((S.set k ⟨e.P, e.G, ms5, t5, v5, rs5⟩).map QE.sv) ∧ Below W0.heap.size W0 xt ∧ (S.set k ⟨e.P, e.G, ms5, t5, v5, rs5⟩).length = sl) := by
                        obtain ⟨hb1, _, c, h3⟩ := HQ.out.1.2.1.kind gs rfl
                        exact ⟨HQ.out.1.1.ks kt h3 (by decide) (by decide) (by decide) (by decide) (by decide), by rw [List.map_set]; exact glt, HQ.out.1.2.2.trans (kt.below (fun q hq => by subst hq; exact hb1) HQ.out.1.2.2.size), by rw [List.length_set]; exact HI.out.2.2.2⟩
                      clear glt kt HQ
                      go_wp2_with fail
                      go_roundw
                      case rel => exact ⟨k + 1, (S.set k ⟨e.P, e.G, ms5, t5, v5, rs5⟩), by have := HE.out.2.1; omega, rfl, HT2.out⟩
                      case measure => simp only [intOf]; have := HE.out.2.1; omega
                  · have r1 : decide ((k : Int) < (sl : Int)) = false := decide_eq_false (by omega)
                    have r2 : decide (k < sl) = false := decide_eq_false hkl
                    clear hkl hks
                    go_wp2_with fail
                    go_roundw
                    case rel => exact ⟨i + 1, S, by have := HLT.out; omega, rfl, HI.out⟩
                    case measure => simp only [intOf]; have := HLT.out; omega
              · have p1 : decide ((i : Int) < (len : Int)) = true := decide_eq_true (by omega)
                have p2 : decide (i < len) = true := decide_eq_true hlt
                have p3 : decide ((i : Int) < 200) = false := decide_eq_false (by omega)
                have p4 : decide (i < 200) = false := decide_eq_false h200
                clear hlt hil h200
                go_wp2_with fail
                go_ret
                exact ⟨rfl, HW0.out.trans (HI.out.2.2.1.mono HW0.out.size)⟩
            · have p1 : decide ((i : Int) < (len : Int)) = false := decide_eq_false (by omega)
              have p2 : decide (i < len) = false := decide_eq_false hlt
              clear hlt hil
              go_wp2_with fail
              go_ret
              exact ⟨rfl, HW0.out.trans (HI.out.2.2.1.mono HW0.out.size)⟩
    · have q1 : decide (z < 0) = false := decide_eq_false hz0
      obtain ⟨k, rfl⟩ : ∃ k : Nat, z = (k : Int) := ⟨z.toNat, by omega⟩
      have k0 : (0 : Int) ≤ (k : Int) := by omega
      have k1 : (k : Int) < (n : Int) := by omega
      have k2 : ((k : Int)).toNat = k := by omega
      have HKN : Hid (k < n) := by show _ < _; omega
      clear hz0 hzb
      go_upto_region 10 with (first | (refine wpList_setG liL_len liL_one 36 info_li (.tmp 44) (.tmp 43) rfl rfl w1.heap.size g n vc ls k (k * 5) ⟨64, 1, 70000, 0, 0⟩ rfl rfl rfl H4.out.1 HKN.out rfl ?_; intro w5 gl5 k5))
      obtain ⟨va, hva⟩ : ∃ va : Option Addr, va = some ⟨g, 0, none⟩ := ⟨_, rfl⟩
      obtain ⟨L5, hL5⟩ : ∃ L5, L5 = ls.set k ⟨64, 1, 70000, 0, 0⟩ := ⟨_, rfl⟩
      have H5 : Hid (GL 5 liL 36 w5 w1.heap.size (.slice va n vc) L5 ∧ L5.length = n ∧ Below w.heap.size w w5) := by
        rw [hva, hL5]
        exact ⟨gl5, by rw [List.length_set]; exact HL.out.1, H4.out.2.trans (k5.below (fun q hq => by subst hq; exact HGW.out) H4.out.2.size)⟩
      rw [← hva]
      clear gl5 k5 hva hL5 H4 hz HKN HGW
      go_upto_region 11 with (first | (refine wpList_nil_l4v rfl rfl ?_; intro BA X hB hX bX) | (refine wpList_store_l4v (.tmp 11) (.tmp 49) rfl rfl BA l4z ⟨a, n, cap, a2, n2, cap2, va, n, vc, a, n, cap⟩ rfl rfl hX rfl ?_; intro W0 h0 k0))
      have HW0 : Hid (Below w.heap.size w W0) := by
        have g1 := hB.out
        have g2 := H5.out.2.2.size
        have bb := bthen H5.out.2.2 bX
        exact bb.trans (k0.below (fun q hq => by omega) bb.size)
      have HT : Hid (ListG 5 liL (fun _ => True) W0 va L5 ∧ L5.length = n ∧ L4vAt W0 BA ⟨a, n, cap, a2, n2, cap2, va, n, vc, a, n, cap⟩) := by
        obtain ⟨va', vc', hv, hg⟩ := H5.out.1.listG (ok := fun _ => True) liL_len (fun _ _ => trivial)
        simp only [Value.slice.injEq] at hv
        obtain ⟨rfl, _, _⟩ := hv
        have g1 := hB.out
        exact ⟨hg.old (bX.trans (k0.below (fun q hq => by omega) bX.size)), H5.out.2.1, h0⟩
      clear hB hX bX h0 k0 H5
      go_upto_region 12 with (first | (refine wpList_box_rmv (.tmp 50) rfl rmz rfl rfl ?_; intro R X hB hX bX))
      have H6 : Hid (Rm W0.heap.size X R none 0 0 [] ∧ L4vAt X BA ⟨a, n, cap, a2, n2, cap2, va, n, vc, a, n, cap⟩ ∧ Below W0.heap.size W0 X) := ⟨⟨hX, GL.nil, by have g1 := hB.out; omega, by decide⟩, HT.out.2.2.below bX, bX⟩
      clear hB hX bX
      go_wp2_with fail
      go_loopw [13, 14] (fun sv iv wr => ∃ (k : Nat) (S : List QE) (sa : Option Addr) (sc : Nat) (va' : Option Addr) (vc' : Nat) (N : Int) (L : List LI), k ≤ 4 ∧ sv = .slice sa S.length sc ∧ iv = .int .i64 (k : Nat) ∧ Hid (Rm W0.heap.size wr R va' vc' N L ∧ L4vAt wr BA ⟨a, n, cap, a2, n2, cap2, va, n, vc, a, n, cap⟩ ∧ QN W0.heap.size wr S ∧ GL 4 sdL 69 wr W0.heap.size (.slice sa S.length sc) (S.map QE.sv) ∧ Below W0.heap.size W0 wr ∧ S.length ≤ k)) (fun _ iv _ => 4 - (intOf iv).toNat)
      case atStart => exact ⟨0, [], none, 0, none, 0, 0, [], by decide, rfl, rfl, H6.out.1, H6.out.2.1, QN.nil _ _, GL.nil, H6.out.2.2, by decide⟩
      case round =>
        obtain ⟨k, S, sa, sc, va', vc', N, L, hk, rfl, rfl, HI⟩ := hrel
        clear H6
        by_cases hkn : k < 4
        · have p1 : decide ((k : Int) < 4) = true := decide_eq_true (by omega)
          have k0 : (0 : Int) ≤ (k : Int) := by omega
          have k1 : (k : Int) < 4 := by omega
          have k2 : ((k : Int)).toNat = k := by omega
          have wk : IntKind.i64.wrap ((k : Int) + 1) = (k : Int) + 1 := i64_s _ (by omega) (by omega)
          have hls : ∃ ak nk ck lk, (∀ x, L4vAt x BA ⟨a, n, cap, a2, n2, cap2, va, n, vc, a, n, cap⟩ → x.cell? ⟨BA, k, none⟩ = some (.slice ak nk ck)) ∧ ListG 5 liL (fun _ => True) W0 ak lk ∧ lk.length = nk ∧ nk ≤ 1048576 := by
            have weak : ∀ {a : Option Addr} {ls : List LI}, ListG 5 liL LiW w a ls → ListG 5 liL (fun _ => True) W0 a ls := fun h => by
              rcases h.old HW0.out with h | ⟨b1, o1, h1, h2, h3⟩
              · exact .inl h
              · exact .inr ⟨b1, o1, h1, h2, fun i o ho => ⟨trivial, (h3 i o ho).2⟩⟩
            rcases (show k = 0 ∨ k = 1 ∨ k = 2 ∨ k = 3 by omega) with rfl | rfl | rfl | rfl
            · exact ⟨a, n, cap, ls, fun x hx => hx.cell 0, weak HL.out.2.1, HL.out.1, HL.out.2.2⟩
            · exact ⟨a2, n2, cap2, ls2, fun x hx => hx.cell 1, weak HL2.out.2.1, HL2.out.1, HL2.out.2.2⟩
            · exact ⟨va, n, vc, L5, fun x hx => hx.cell 2, HT.out.1, HT.out.2.1, HL.out.2.2⟩
            · exact ⟨a, n, cap, ls, fun x hx => hx.cell 3, weak HL.out.2.1, HL.out.1, HL.out.2.2⟩
          obtain ⟨ak, nk, ck, lk, hcell, hlk, hnk, hbk⟩ := hls
          have HK : Hid ((∀ x, L4vAt x BA ⟨a, n, cap, a2, n2, cap2, va, n, vc, a, n, cap⟩ → x.cell? ⟨BA, k, none⟩ = some (.slice ak nk ck)) ∧ ListG 5 liL (fun _ => True) W0 ak lk ∧ lk.length = nk ∧ nk ≤ 1048576 ∧ k < 4) := ⟨hcell, hlk, hnk, hbk, hkn⟩
          clear hcell hlk hnk hbk hkn hk
          have QY : Hid _ := lay_any W0 W0.heap.size R va' vc' N L ak nk ck lk (fun _ => True) wr HK.out.2.2.1 HK.out.2.1 HK.out.2.2.2.1 HI.out.2.2.2.2.1 (Nat.le_refl _) HI.out.1
          have d0 : wr.cell? ⟨BA, k, none⟩ = some (.slice ak nk ck) := HK.out.1 wr HI.out.2.1
          go_wp2_with fail
          refine Calls.mono QY.out ?_
          rintro e2 x2 ⟨g, gc, L', rfl, r2, m2, k3⟩
          have H2 : Hid ((Rm W0.heap.size x2 R (some ⟨g, 0, none⟩) gc (nk : Int) L' ∧ L4vAt x2 BA ⟨a, n, cap, a2, n2, cap2, va, n, vc, a, n, cap⟩ ∧ QN W0.heap.size x2 S ∧ GL 4 sdL 69 x2 W0.heap.size (.slice sa S.length sc) (S.map QE.sv) ∧ Below W0.heap.size W0 x2) ∧ Marks lk L' ∧ S.length ≤ k) := ⟨⟨r2, HI.out.2.1.rb k3, HI.out.2.2.1.rb k3, HI.out.2.2.2.1.rbs k3, HI.out.2.2.2.2.1.trans (k3.below (fun q hq => hq.1) HI.out.2.2.2.2.1.size)⟩, m2, HI.out.2.2.2.2.2⟩
          clear r2 m2 k3 QY d0 HI
          have QW : Hid _ := newM (some ⟨g, 0, none⟩) nk gc lk (fun _ => True) x2 HK.out.2.2.1 (H2.out.1.1.list H2.out.2.1) (by have h1 := HK.out.2.2.2.1; omega)
          go_wp2_with fail
          refine Calls.mono QW.out ?_
          rintro e3 x3 ⟨q, en, rfl, m3, b3⟩
          have H3 : Hid ((Rm W0.heap.size x3 R (some ⟨g, 0, none⟩) gc (nk : Int) L' ∧ L4vAt x3 BA ⟨a, n, cap, a2, n2, cap2, va, n, vc, a, n, cap⟩ ∧ QN W0.heap.size x3 S ∧ GL 4 sdL 69 x3 W0.heap.size (.slice sa S.length sc) (S.map QE.sv) ∧ Below W0.heap.size W0 x3) ∧ MN x2.heap.size x3 lk q en) := ⟨⟨H2.out.1.1.below b3, H2.out.1.2.1.below b3, H2.out.1.2.2.1.below b3, H2.out.1.2.2.2.1.below b3, H2.out.1.2.2.2.2.trans (b3.mono H2.out.1.2.2.2.2.size)⟩, m3⟩
          clear b3 m3 QW
          have QT : Hid _ := stand_any W0 W0.heap.size R g gc L' ak nk ck lk (fun _ => True) x3 HK.out.2.2.1 HK.out.2.1 H3.out.1.2.2.2.2 H2.out.2.1 H3.out.1.1
          have d0 : x3.cell? ⟨BA, k, none⟩ = some (.slice ak nk ck) := HK.out.1 x3 H3.out.1.2.1
          go_wp2_with fail
          refine Calls.mono QT.out ?_
          rintro e4 x4 ⟨rfl, b4⟩
          have H4 : Hid ((Rm W0.heap.size x4 R (some ⟨g, 0, none⟩) gc (nk : Int) L' ∧ L4vAt x4 BA ⟨a, n, cap, a2, n2, cap2, va, n, vc, a, n, cap⟩ ∧ QN W0.heap.size x4 S ∧ GL 4 sdL 69 x4 W0.heap.size (.slice sa S.length sc) (S.map QE.sv) ∧ Below W0.heap.size W0 x4) ∧ MN x2.heap.size x4 lk q en) := ⟨⟨H3.out.1.1.below b4, H3.out.1.2.1.below b4, H3.out.1.2.2.1.below b4, H3.out.1.2.2.2.1.below b4, H3.out.1.2.2.2.2.trans (b4.mono H3.out.1.2.2.2.2.size)⟩, H3.out.2.below b4⟩
          clear b4 QT d0 H3
          have QR : Hid _ := newRM _ x4 q en ak nk ck lk (fun _ => True) x4 HK.out.2.2.1 (HK.out.2.1.old H4.out.1.2.2.2.2) H4.out.2
          have d0 : x4.cell? ⟨BA, k, none⟩ = some (.slice ak nk ck) := HK.out.1 x4 H4.out.1.2.1
          go_wp2_with fail
          refine Calls.mono QR.out ?_
          rintro e5 x5 ⟨v, rfl, m5, b5⟩
          have H5 : Hid ((Rm W0.heap.size x5 R (some ⟨g, 0, none⟩) gc (nk : Int) L' ∧ L4vAt x5 BA ⟨a, n, cap, a2, n2, cap2, va, n, vc, a, n, cap⟩ ∧ QN W0.heap.size x5 S ∧ GL 4 sdL 69 x5 W0.heap.size (.slice sa S.length sc) (S.map QE.sv) ∧ Below W0.heap.size W0 x5) ∧ MN x2.heap.size x5 lk q en ∧ MR x5 lk v) := ⟨⟨H4.out.1.1.below b5, H4.out.1.2.1.below b5, H4.out.1.2.2.1.below b5, H4.out.1.2.2.2.1.below b5, H4.out.1.2.2.2.2.trans (b5.mono H4.out.1.2.2.2.2.size)⟩, H4.out.2.below b5, m5⟩
          clear b5 m5 QR d0 H4
          go_upto_region 20 with (first | (refine wpList_nil_rqv rfl rfl ?_; intro B7 X hB7 hX bX) | (refine wpList_store_rqv (.tmp 17) (.tmp 76) rfl rfl B7 qz v rfl rfl hX rfl ?_; intro x6 h6 k6))
          have H6 : Hid ((Rm W0.heap.size x6 R (some ⟨g, 0, none⟩) gc (nk : Int) L' ∧ L4vAt x6 BA ⟨a, n, cap, a2, n2, cap2, va, n, vc, a, n, cap⟩ ∧ QN W0.heap.size x6 S ∧ GL 4 sdL 69 x6 W0.heap.size (.slice sa S.length sc) (S.map QE.sv) ∧ Below W0.heap.size W0 x6) ∧ MN x2.heap.size x6 lk q en ∧ MR x6 lk v ∧ RqvAt x6 B7 v) := by
            have h1 := hB7.out
            have h2 := H5.out.1.2.2.2.2.size
            refine ⟨⟨(H5.out.1.1.below bX).ks k6 hX (by decide) (by decide), (H5.out.1.2.1.below bX).ch k6 (by have := (Array.getElem?_eq_some_iff.1 H5.out.1.2.1).1; omega), (H5.out.1.2.2.1.below bX).ks k6 hX (by decide) (by decide) (by decide) (by decide) (by decide), (H5.out.1.2.2.2.1.below bX).kss k6 hX (by decide), ?_⟩, (H5.out.2.1.below bX).ks k6 hX (by decide) (by decide) (by decide), (H5.out.2.2.below bX).ks k6 hX (by decide) (by decide), h6⟩
            have bb : Below W0.heap.size W0 X := H5.out.1.2.2.2.2.trans (bX.mono H5.out.1.2.2.2.2.size)
            exact bb.trans (k6.below (fun q hq => by omega) bb.size)
          clear hB7 hX bX h6 k6 H5
          have QU : Hid _ := num_any en x6
          go_wp2_with fail
          refine Calls.mono QU.out ?_
          rintro e7 x7 ⟨rfl, rfl⟩
          clear QU
          have hM := H6.out.2.1
          have HNB : Hid (∀ x ∈ S, ∀ q, QB x.P x.G x.ms q → q < x2.heap.size) := fun x hx q hq => (H2.out.1.2.2.1.q x hx).qa.lt q hq
          have HW2 : Hid (W0.heap.size ≤ x2.heap.size) := H2.out.1.2.2.2.2.size
          have HSk : Hid (S.length ≤ k ∧ k < 4) := ⟨H2.out.2.2, HK.out.2.2.2.2⟩
          clear H2 HK
          rcases hM with ⟨hnb, rfl, P, G, rfl, hq, hP, hG⟩ | ⟨hnb, rfl, rfl⟩
          · have HE : Hid (QQ x6 P G (lk.map mk) tz ∧ x2.heap.size ≤ P ∧ x2.heap.size ≤ G ∧ AL x6 v (c0s lk) tz (lk.map rmk)) := ⟨hq, hP, hG, H6.out.2.2.1 hnb⟩
            clear hnb hq hP hG
            go_wp2_with (first | (refine wpList_load_rqv (.tmp 17) rfl B7 v rfl H6.out.2.2.2 rfl ?_) | (refine wpList_bsd (.tmp 92) (.tmp 93) rfl (some ⟨P, 0, none⟩) v rfl rfl rfl ?_) | (refine wpList_bs1s (.tmp 94) rfl ⟨some ⟨P, 0, none⟩, v⟩ rfl rfl ?_; intro B8 X hB8 hX bX) | (refine wpList_app1G sdL_len sdL_one (by decide) rfl (.tmp 91) (.tmp 95) 78 69 rfl Try.underlying78 info_sd W0.heap.size (.slice sa S.length sc) (S.map QE.sv) rfl (H6.out.1.2.2.2.1.below bX) B8 1 ⟨some ⟨P, 0, none⟩, v⟩ rfl (by have h1 := hB8.out; omega) hX (by rw [List.length_map]; have h1 := HSk.out; omega) (by have h1 := hB8.out; have h2 := H6.out.1.2.2.2.2.size; omega) ?_))
            intro v9 x9 gl9 g9 _
            obtain ⟨sa9, sc9, hv9⟩ := gl9.form
            rw [List.length_append, List.length_map, List.length_singleton] at hv9
            subst hv9
            obtain ⟨en, hen⟩ : ∃ en : QE, en = ⟨P, G, lk.map mk, tz, v, lk.map rmk⟩ := ⟨_, rfl⟩
            have H9 : Hid (Rm W0.heap.size x9 R (some ⟨g, 0, none⟩) gc (nk : Int) L' ∧ L4vAt x9 BA ⟨a, n, cap, a2, n2, cap2, va, n, vc, a, n, cap⟩ ∧ QN W0.heap.size x9 (S ++ [en]) ∧ GL 4 sdL 69 x9 W0.heap.size (.slice sa9 (S ++ [en]).length sc9) ((S ++ [en]).map QE.sv) ∧ Below W0.heap.size W0 x9 ∧ (S ++ [en]).length ≤ k + 1) := by
              have gX := H6.out.1.2.2.2.1.below bX
              have k9 := Ch.ofGrown g9
              have k9' : Ch (fun q => (Value.slice sa S.length sc).ownBlock = some q) X x9 := k9
              have qa : QN W0.heap.size x6 (S ++ [en]) := by
                rw [hen]
                exact H6.out.1.2.2.1.add ⟨P, G, lk.map mk, tz, v, lk.map rmk⟩ HE.out.1 (by show AL x6 v (csOf (lk.map mk)) tz (lk.map rmk); rw [csOf_mk]; exact HE.out.2.2.2) x2.heap.size HNB.out (mk_out HE.out.2.1 HE.out.2.2.1) HW2.out
              have bb : Below W0.heap.size W0 X := H6.out.1.2.2.2.2.trans (bX.mono H6.out.1.2.2.2.2.size)
              refine ⟨(H6.out.1.1.below bX).own gX k9', (H6.out.1.2.1.below bX).ch k9' (own_ne gX (H6.out.1.2.1.below bX) (by decide)), (qa.below bX).own gX k9', ?_, bb.trans (k9'.below (fun q hq => (gX.kind q hq).1) bb.size), by rw [List.length_append]; have := HSk.out; simp; omega⟩
              rw [List.map_append, List.length_append, List.length_singleton, hen]
              exact gl9
            have HLE : Hid ((S ++ [en]).length = S.length + 1) := by show _ = _; rw [List.length_append, List.length_singleton]
            rw [← HLE.out]
            clear gl9 g9 hB8 hX bX hen HE H6
            go_wp2_with fail
            go_roundw
            case rel => exact ⟨k + 1, S ++ [en], sa9, sc9, _, _, _, _, by have := HSk.out; omega, rfl, rfl, H9.out⟩
            case measure => simp only [intOf]; have := HSk.out; omega
          · go_wp2_with fail
            go_roundw
            case rel => exact ⟨k + 1, S, sa, sc, _, _, _, _, by have := HSk.out; omega, rfl, rfl, H6.out.1.1, H6.out.1.2.1, H6.out.1.2.2.1, H6.out.1.2.2.2.1, H6.out.1.2.2.2.2, by have := HSk.out; omega⟩
            case measure => simp only [intOf]; have := HSk.out; omega
        · have p1 : decide ((k : Int) < 4) = false := decide_eq_false (by omega)
          have HK4 : Hid (k ≤ 4) := hk
          clear hkn hk
          have QY : Hid _ := lay_any W0 W0.heap.size R va' vc' N L none 0 0 [] LiW wr rfl (.inl rfl) (by decide) HI.out.2.2.2.2.1 (Nat.le_refl _) HI.out.1
          go_wp2_with fail
          refine Calls.mono QY.out ?_
          rintro e2 x2 ⟨g, gc, L', rfl, _, _, k2⟩
          obtain ⟨sl, hsl⟩ : ∃ sl, S.length = sl := ⟨_, rfl⟩
          have H2 : Hid (QN W0.heap.size x2 S ∧ GL 4 sdL 69 x2 W0.heap.size (.slice sa sl sc) (S.map QE.sv) ∧ Below W0.heap.size W0 x2 ∧ S.length = sl ∧ sl ≤ 4) := ⟨HI.out.2.2.1.rb k2, by rw [← hsl]; exact HI.out.2.2.2.1.rbs k2, HI.out.2.2.2.2.1.trans (k2.below (fun q hq => hq.1) HI.out.2.2.2.2.1.size), hsl, by have h1 := HI.out.2.2.2.2.2; have h2 := HK4.out; omega⟩
          have hsl4 : sl ≤ 4 := H2.out.2.2.2.2
          rw [hsl]
          clear k2 QY hsl HI
          go_wp2_with fail
          go_loopw [19] (fun iv wr => ∃ (i : Nat) (S : List QE), i ≤ len ∧ iv = .int .i64 (i : Nat) ∧ Hid (QN W0.heap.size wr S ∧ GL 4 sdL 69 wr W0.heap.size (.slice sa sl sc) (S.map QE.sv) ∧ Below W0.heap.size W0 wr ∧ S.length = sl)) (fun iv _ => len - (intOf iv).toNat)
          case atStart => exact ⟨0, S, Nat.zero_le _, rfl, H2.out.1, H2.out.2.1, H2.out.2.2.1, H2.out.2.2.2.1⟩
          case round =>
            obtain ⟨i, S, hil, rfl, HI⟩ := hrel
            clear H2
            by_cases hlt : i < len
            · by_cases h200 : i < 200
              · have p1 : decide ((i : Int) < (len : Int)) = true := decide_eq_true (by omega)
                have p2 : decide (i < len) = true := decide_eq_true hlt
                have p3 : decide ((i : Int) < 200) = true := decide_eq_true (by omega)
                have i0 : (0 : Int) ≤ (i : Int) := by omega
                have i1 : (i : Int) < (len : Int) := by omega
                have i2 : ((i : Int)).toNat = i := by omega
                have wi : IntKind.i64.wrap ((i : Int) + 1) = (i : Int) + 1 := i64_s _ (by omega) (by omega)
                have HLT : Hid (i < len) := hlt
                clear hil hlt h200
                go_wp2_with fail
                go_loopw [20] (fun iv wr => ∃ (k : Nat) (S : List QE), k ≤ sl ∧ iv = .int .i64 (k : Nat) ∧ Hid (QN W0.heap.size wr S ∧ GL 4 sdL 69 wr W0.heap.size (.slice sa sl sc) (S.map QE.sv) ∧ Below W0.heap.size W0 wr ∧ S.length = sl)) (fun iv _ => sl - (intOf iv).toNat)
                case atStart => exact ⟨0, S, Nat.zero_le _, rfl, HI.out⟩
                case round =>
                  obtain ⟨k, S, hks, rfl, HI⟩ := hrel
                  by_cases hkl : k < sl
                  · have r1 : decide ((k : Int) < (sl : Int)) = true := decide_eq_true (by omega)
                    have r2 : decide (k < sl) = true := decide_eq_true hkl
                    have k0 : (0 : Int) ≤ (k : Int) := by omega
                    have k1 : (k : Int) < (sl : Int) := by omega
                    have k2 : ((k : Int)).toNat = k := by omega
                    have wk : IntKind.i64.wrap ((k : Int) + 1) = (k : Int) + 1 := i64_s _ (by omega) (by omega)
                    obtain ⟨e, he⟩ : ∃ e, S[k]? = some e := ⟨_, List.getElem?_eq_getElem (by rw [HI.out.2.2.2]; exact hkl)⟩
                    obtain ⟨gs, c', hv, hbg, hgl, _⟩ := HI.out.2.1.at sdL_len k e.sv (by rw [List.getElem?_map, he]; rfl)
                    simp only [Value.slice.injEq] at hv
                    obtain ⟨rfl, hx1, hx2⟩ := hv
                    clear hx1 hx2
                    obtain ⟨kd, tw, cl, sz, it, g0, off, hbo, hrg⟩ := op_at' HS.out.1 HW0.out i (by rw [HS.out.2.1]; exact HLT.out)
                    subst hbo
                    have HR0 : Hid (W0.rangeAt g0 (off + i * 5) (opC ⟨kd, tw, cl, sz, it⟩).toList) := hrg
                    have HE : Hid (S[k]? = some e ∧ k < sl ∧ k < S.length) := ⟨he, hkl, by rw [HI.out.2.2.2]; exact hkl⟩
                    clear he hrg hkl hks hbg hgl
                    go_upto_region 31 with fail
                    refine MixH.start (fun A => Below W0.heap.size W0 A ∧ A.rangeAt gs (k * 4) (sdA ⟨some ⟨e.P, 0, none⟩, e.v⟩).toList) (by kernel_rfl) ?_
                    obtain ⟨wA, hwA⟩ : ∃ W_, W_ = wr.drew := ⟨_, rfl⟩
                    have bdr : Below wr.heap.size wr wA := by rw [hwA]; exact (Below.refl _ _).drew
                    have HV : Hid (QN W0.heap.size wA S ∧ GL 4 sdL 69 wA W0.heap.size (.slice (some ⟨gs, 0, none⟩) sl sc) (S.map QE.sv) ∧ Below W0.heap.size W0 wA) := ⟨HI.out.1.below bdr, HI.out.2.1.below bdr, HI.out.2.2.1.trans (bdr.mono HI.out.2.2.1.size)⟩
                    have hS : Below W0.heap.size W0 wA ∧ wA.rangeAt gs (k * 4) (sdA ⟨some ⟨e.P, 0, none⟩, e.v⟩).toList := ⟨HV.out.2.2, HV.out.2.1.range sdL_len k ⟨some ⟨e.P, 0, none⟩, e.v⟩ (by rw [List.getElem?_map, HE.out.1]; rfl)⟩
                    rw [← hwA]
                    clear hwA bdr
                    refine MixH.takes [true, true, true, false, true, true, true] 9 (by kernel_rfl) (by kernel_rfl) (by decide) (by kernel_rfl) hS (fun K hK => ?_)
                    simp only [Mix.pick]
                    repeat (go_big_quiet_step (fail))
                    refine wpQuiet_nil (hK _ ?_)
                    clear hK K
                    refine MixH.take 8 3 _ (.agg (sdA ⟨some ⟨e.P, 0, none⟩, e.v⟩)) rfl (by kernel_rfl) (by kernel_rfl) (by kernel_rfl) (by kernel_rfl) (yields_sdv (.tmp 118) rfl gs (k * 4) ⟨some ⟨e.P, 0, none⟩, e.v⟩ rfl rfl (fun A hA => hA.2)) hS (fun a' ha => ?_)
                    simp only [Act.put, List.setIfInBounds_toArray, List.set_cons_succ, List.set_cons_zero] at ha
                    subst ha
                    refine MixH.take 7 7 _ (.agg (opC ⟨kd, tw, cl, sz, it⟩)) rfl (by kernel_rfl) (by kernel_rfl) (by kernel_rfl) (by kernel_rfl) (yields_opv (.tmp 122) rfl g0 (off + i * 5) ⟨kd, tw, cl, sz, it⟩ rfl rfl (fun A hA => range_below HR0.out hA.1)) hS (fun a' ha => ?_)
                    simp only [Act.put, List.setIfInBounds_toArray, List.set_cons_succ, List.set_cons_zero] at ha
                    subst ha
                    refine MixH.pair [false, false, false, false, false, false, false, false, true] [false, false, false, false, false, false, false, false, false, false, false, false, true] 6 8 12 _ _ rfl rfl rfl rfl (by kernel_rfl) (by kernel_rfl) (fun K hK => ?_) (fun K hK => ?_)
                    · simp only [Mix.pick]
                      have QS : Hid _ := step_any (undN W0 S k e.P e.G) e.v e.rs (csOf e.ms) e.t kd cl sz it tw wA (HV.out.1.toJ HV.out.2.2 HE.out.1) (HV.out.1.al e (List.mem_of_getElem? HE.out.1))
                      go_wp2_with fail
                      refine Calls.mono (QS.out) ?_
                      rintro e5 x8 ⟨v5, rs5, cs5, t5, rfl, j5, a5, k5⟩
                      obtain ⟨ms5, n5, b5⟩ := HV.out.1.ofJ k5 HE.out.2.2 j5 a5
                      have HP : Hid (QN W0.heap.size x8 (S.set k ⟨e.P, e.G, ms5, t5, v5, rs5⟩) ∧ GL 4 sdL 69 x8 W0.heap.size (.slice (some ⟨gs, 0, none⟩) sl sc) (S.map QE.sv) ∧ Below W0.heap.size W0 x8) := ⟨n5, HV.out.2.1.kps k5, b5⟩
                      replace hS : Below W0.heap.size W0 x8 ∧ x8.rangeAt gs (k * 4) (sdA ⟨some ⟨e.P, 0, none⟩, e.v⟩).toList := ⟨b5, HP.out.2.1.range sdL_len k ⟨some ⟨e.P, 0, none⟩, e.v⟩ (by rw [List.getElem?_map, HE.out.1]; rfl)⟩
                      clear n5 b5 j5 a5 k5 QS HV
                      go_wp2_with fail
                      refine ⟨rfl, hK _ _ hS ?_⟩
                      clear hK K
                      refine MixH.takes [false, false, false, false, false, false, false, false, false, true, true, true] 3 (by kernel_rfl) (by kernel_rfl) (by decide) (by kernel_rfl) hS (fun K hK => ?_)
                      simp only [Mix.pick]
                      repeat (go_big_quiet_step (fail))
                      refine wpQuiet_nil (hK _ ?_)
                      clear hK K
                      refine MixH.one [false, false, false, false, false, false, false, false, false, false, false, false, true] 2 12 _ rfl rfl (by kernel_rfl) (by kernel_rfl) (fun K hK => ?_)
                      simp only [Mix.pick]
                      refine wpList_nil_sdv rfl rfl ?_
                      intro B21 xb hB21 hX21 bX21
                      go_wp2_with fail
                      have H_ : Hid (QN W0.heap.size xb (S.set k ⟨e.P, e.G, ms5, t5, v5, rs5⟩) ∧ GL 4 sdL 69 xb W0.heap.size (.slice (some ⟨gs, 0, none⟩) sl sc) (S.map QE.sv) ∧ Below W0.heap.size W0 xb) := ⟨HP.out.1.below bX21, HP.out.2.1.below bX21, HP.out.2.2.trans (bX21.mono HP.out.2.2.size)⟩
                      have HGB : Hid (gs < B21 ∧ W0.heap.size ≤ B21) := by
                        have h1 := (HP.out.2.1.kind gs rfl).2.1
                        have h2 := hB21.out
                        have h3 := HP.out.2.2.size
                        exact ⟨by omega, by omega⟩
                      replace hS : Below W0.heap.size W0 xb ∧ xb.rangeAt gs (k * 4) (sdA ⟨some ⟨e.P, 0, none⟩, e.v⟩).toList := ⟨H_.out.2.2, range_below hS.2 bX21⟩
                      have HX21 : Hid (SdvAt xb B21 sz0) := hX21
                      clear HP hX21 bX21 hB21
                      have HP : Hid _ := H_.out
                      clear H_
                      refine ⟨rfl, hK _ _ hS ?_⟩
                      clear hK K
                      refine MixH.one [false, false, false, false, false, false, false, false, false, false, false, false, false, true] 1 13 _ rfl rfl (by kernel_rfl) (by kernel_rfl) (fun K hK => ?_)
                      simp only [Mix.pick]
                      refine wpList_store_sdv (.tmp 21) (.tmp 125) rfl rfl B21 sz0 ⟨some ⟨e.P, 0, none⟩, v5⟩ rfl rfl HX21.out rfl ?_
                      intro xs hs9 ks9
                      refine wpList_nil ?_
                      have HQ : Hid ((QN W0.heap.size xs (S.set k ⟨e.P, e.G, ms5, t5, v5, rs5⟩) ∧ GL 4 sdL 69 xs W0.heap.size (.slice (some ⟨gs, 0, none⟩) sl sc) (S.map QE.sv) ∧ Below W0.heap.size W0 xs) ∧ SdvAt xs B21 ⟨some ⟨e.P, 0, none⟩, v5⟩) := by
                        have h1 := HGB.out
                        exact ⟨⟨HP.out.1.ks ks9 HX21.out (by decide) (by decide) (by decide) (by decide) (by decide), HP.out.2.1.ch ks9 (fun q hq => by simp [Value.ownBlock] at hq; omega), HP.out.2.2.trans (ks9.below (fun q hq => by omega) HP.out.2.2.size)⟩, hs9⟩
                      replace hS : Below W0.heap.size W0 xs ∧ xs.rangeAt gs (k * 4) (sdA ⟨some ⟨e.P, 0, none⟩, e.v⟩).toList := ⟨HQ.out.1.2.2, HQ.out.1.2.1.range sdL_len k ⟨some ⟨e.P, 0, none⟩, e.v⟩ (by rw [List.getElem?_map, HE.out.1]; rfl)⟩
                      clear hs9 ks9 HP HX21
                      refine ⟨rfl, hK _ _ hS ?_⟩
                      clear hK K
                      refine MixH.takes [false, false, false, false, false, false, false, false, false, false, false, false, false, false, true] 0 (by kernel_rfl) (by kernel_rfl) (by decide) (by kernel_rfl) hS (fun K hK => ?_)
                      simp only [Mix.pick]
                      repeat (go_big_quiet_step (fail))
                      refine wpQuiet_nil (hK _ ?_)
                      clear hK K
                      refine MixH.done (by kernel_rfl) ?_
                      clear hS
                      go_wp2_with (first | (refine wpList_load_sdv (.tmp 21) rfl B21 ⟨some ⟨e.P, 0, none⟩, v5⟩ rfl HQ.out.2 rfl ?_) | (refine wpList_setG sdL_len sdL_one 69 info_sd (.tmp 132) (.tmp 131) rfl rfl W0.heap.size gs sl sc (S.map QE.sv) k (k * 4) ⟨some ⟨e.P, 0, none⟩, v5⟩ rfl rfl rfl HQ.out.1.2.1 HE.out.2.1 rfl ?_))
                      intro xt glt kt
                      have HT2 : Hid (QN W0.heap.size xt (S.set k ⟨e.P, e.G, ms5, t5, v5, rs5⟩) ∧ GL 4 sdL 69 xt W0.heap.size (.slice (some ⟨gs, 0, none⟩) sl sc) ((S.set k ⟨e.P, e.G, ms5, t5, v5, rs5⟩).map QE.sv) ∧ Below W0.heap.size W0 xt ∧ (S.set k ⟨e.P, e.G, ms5, t5, v5, rs5⟩).length = sl) := by
                        obtain ⟨hb1, _, c, h3⟩ := HQ.out.1.2.1.kind gs rfl
                        exact ⟨HQ.out.1.1.ks kt h3 (by decide) (by decide) (by decide) (by decide) (by decide), by rw [List.map_set]; exact glt, HQ.out.1.2.2.trans (kt.below (fun q hq => by subst hq; exact hb1) HQ.out.1.2.2.size), by rw [List.length_set]; exact HI.out.2.2.2⟩
                      clear glt kt HQ
                      go_wp2_with fail
                      go_roundw
                      case rel => exact ⟨k + 1, (S.set k ⟨e.P, e.G, ms5, t5, v5, rs5⟩), by have := HE.out.2.1; omega, rfl, HT2.out⟩
                      case measure => simp only [intOf]; have := HE.out.2.1; omega
                    · simp only [Mix.pick]
                      refine wpList_nil_sdv rfl rfl ?_
                      intro B21 xb hB21 hX21 bX21
                      go_wp2_with fail
                      have H_ : Hid (QN W0.heap.size xb S ∧ GL 4 sdL 69 xb W0.heap.size (.slice (some ⟨gs, 0, none⟩) sl sc) (S.map QE.sv) ∧ Below W0.heap.size W0 xb) := ⟨HV.out.1.below bX21, HV.out.2.1.below bX21, HV.out.2.2.trans (bX21.mono HV.out.2.2.size)⟩
                      have HGB : Hid (gs < B21 ∧ W0.heap.size ≤ B21) := by
                        have h1 := (HV.out.2.1.kind gs rfl).2.1
                        have h2 := hB21.out
                        have h3 := HV.out.2.2.size
                        exact ⟨by omega, by omega⟩
                      replace hS : Below W0.heap.size W0 xb ∧ xb.rangeAt gs (k * 4) (sdA ⟨some ⟨e.P, 0, none⟩, e.v⟩).toList := ⟨H_.out.2.2, range_below hS.2 bX21⟩
                      have HBX : Hid (SdvAt xb B21 sz0) := hX21
                      clear HV hX21 bX21 hB21
                      have HV : Hid _ := H_.out
                      clear H_
                      refine ⟨rfl, hK _ _ hS ?_⟩
                      clear hK K
                      refine MixH.one [false, false, false, false, false, false, false, false, true] 5 8 _ rfl rfl (by kernel_rfl) (by kernel_rfl) (fun K hK => ?_)
                      simp only [Mix.pick]
                      have QS : Hid _ := step_any (undN W0 S k e.P e.G) e.v e.rs (csOf e.ms) e.t kd cl sz it tw xb (HV.out.1.toJ HV.out.2.2 HE.out.1) (HV.out.1.al e (List.mem_of_getElem? HE.out.1))
                      go_wp2_with fail
                      refine Calls.mono (QS.out) ?_
                      rintro e5 x8 ⟨v5, rs5, cs5, t5, rfl, j5, a5, k5⟩
                      obtain ⟨ms5, n5, b5⟩ := HV.out.1.ofJ k5 HE.out.2.2 j5 a5
                      have HP : Hid (QN W0.heap.size x8 (S.set k ⟨e.P, e.G, ms5, t5, v5, rs5⟩) ∧ GL 4 sdL 69 x8 W0.heap.size (.slice (some ⟨gs, 0, none⟩) sl sc) (S.map QE.sv) ∧ Below W0.heap.size W0 x8) := ⟨n5, HV.out.2.1.kps k5, b5⟩
                      have HX21 : Hid (SdvAt x8 B21 sz0) := HBX.out.kp k5
                      replace hS : Below W0.heap.size W0 x8 ∧ x8.rangeAt gs (k * 4) (sdA ⟨some ⟨e.P, 0, none⟩, e.v⟩).toList := ⟨b5, HP.out.2.1.range sdL_len k ⟨some ⟨e.P, 0, none⟩, e.v⟩ (by rw [List.getElem?_map, HE.out.1]; rfl)⟩
                      clear n5 b5 j5 a5 k5 QS HV
                      go_wp2_with fail
                      refine ⟨rfl, hK _ _ hS ?_⟩
                      clear hK K
                      refine MixH.takes [false, false, false, false, false, false, false, false, false, true, true, true] 2 (by kernel_rfl) (by kernel_rfl) (by decide) (by kernel_rfl) hS (fun K hK => ?_)
                      simp only [Mix.pick]
                      repeat (go_big_quiet_step (fail))
                      refine wpQuiet_nil (hK _ ?_)
                      clear hK K
                      refine MixH.one [false, false, false, false, false, false, false, false, false, false, false, false, false, true] 1 13 _ rfl rfl (by kernel_rfl) (by kernel_rfl) (fun K hK => ?_)
                      simp only [Mix.pick]
                      refine wpList_store_sdv (.tmp 21) (.tmp 125) rfl rfl B21 sz0 ⟨some ⟨e.P, 0, none⟩, v5⟩ rfl rfl HX21.out rfl ?_
                      intro xs hs9 ks9
                      refine wpList_nil ?_
                      have HQ : Hid ((QN W0.heap.size xs (S.set k ⟨e.P, e.G, ms5, t5, v5, rs5⟩) ∧ GL 4 sdL 69 xs W0.heap.size (.slice (some ⟨gs, 0, none⟩) sl sc) (S.map QE.sv) ∧ Below W0.heap.size W0 xs) ∧ SdvAt xs B21 ⟨some ⟨e.P, 0, none⟩, v5⟩) := by
                        have h1 := HGB.out
                        exact ⟨⟨HP.out.1.ks ks9 HX21.out (by decide) (by decide) (by decide) (by decide) (by decide), HP.out.2.1.ch ks9 (fun q hq => by simp [Value.ownBlock] at hq; omega), HP.out.2.2.trans (ks9.below (fun q hq => by omega) HP.out.2.2.size)⟩, hs9⟩
                      replace hS : Below W0.heap.size W0 xs ∧ xs.rangeAt gs (k * 4) (sdA ⟨some ⟨e.P, 0, none⟩, e.v⟩).toList := ⟨HQ.out.1.2.2, HQ.out.1.2.1.range sdL_len k ⟨some ⟨e.P, 0, none⟩, e.v⟩ (by rw [List.getElem?_map, HE.out.1]; rfl)⟩
                      clear hs9 ks9 HP HX21
                      refine ⟨rfl, hK _ _ hS ?_⟩
                      clear hK K
                      refine MixH.takes [false, false, false, false, false, false, false, false, false, false, false, false, false, false, true] 0 (by kernel_rfl) (by kernel_rfl) (by decide) (by kernel_rfl) hS (fun K hK => ?_)
                      simp only [Mix.pick]
                      repeat (go_big_quiet_step (fail))
                      refine wpQuiet_nil (hK _ ?_)
                      clear hK K
                      refine MixH.done (by kernel_rfl) ?_
                      clear hS
                      go_wp2_with (first | (refine wpList_load_sdv (.tmp 21) rfl B21 ⟨some ⟨e.P, 0, none⟩, v5⟩ rfl HQ.out.2 rfl ?_) | (refine wpList_setG sdL_len sdL_one 69 info_sd (.tmp 132) (.tmp 131) rfl rfl W0.heap.size gs sl sc (S.map QE.sv) k (k * 4) ⟨some ⟨e.P, 0, none⟩, v5⟩ rfl rfl rfl HQ.out.1.2.1 HE.out.2.1 rfl ?_))
                      intro xt glt kt
                      have HT2 : Hid (QN W0.heap.size xt (S.set k ⟨e.P, e.G, ms5, t5, v5, rs5⟩) ∧ GL 4 sdL 69 xt W0.heap.size (.slice (some ⟨gs, 0, none⟩) sl sc) ((S.set k ⟨e.P, e.G, ms5, t5, v5, rs5⟩).map QE.sv) ∧ Below W0.heap.size W0 xt ∧ (S.set k ⟨e.P, e.G, ms5, t5, v5, rs5⟩).length = sl) := by
                        obtain ⟨hb1, _, c, h3⟩ := HQ.out.1.2.1.kind gs rfl
                        exact ⟨HQ.out.1.1.ks kt h3 (by decide) (by decide) (by decide) (by decide) (by decide), by rw [List.map_set]; exact glt, HQ.out.1.2.2.trans (kt.below (fun q hq => by subst hq; exact hb1) HQ.out.1.2.2.size), by rw [List.length_set]; exact HI.out.2.2.2⟩
                      clear glt kt HQ
                      go_wp2_with fail
                      go_roundw
                      case rel => exact ⟨k + 1, (S.set k ⟨e.P, e.G, ms5, t5, v5, rs5⟩), by have := HE.out.2.1; omega, rfl, HT2.out⟩
                      case measure => simp only [intOf]; have := HE.out.2.1; omega
                  · have r1 : decide ((k : Int) < (sl : Int)) = false := decide_eq_false (by omega)
                    have r2 : decide (k < sl) = false := decide_eq_false hkl
                    clear hkl hks
                    go_wp2_with fail
                    go_roundw
                    case rel => exact ⟨i + 1, S, by have := HLT.out; omega, rfl, HI.out⟩
                    case measure => simp only [intOf]; have := HLT.out; omega
              · have p1 : decide ((i : Int) < (len : Int)) = true := decide_eq_true (by omega)
                have p2 : decide (i < len) = true := decide_eq_true hlt
                have p3 : decide ((i : Int) < 200) = false := decide_eq_false (by omega)
                have p4 : decide (i < 200) = false := decide_eq_false h200
                clear hlt hil h200
                go_wp2_with fail
                go_ret
                exact ⟨rfl, HW0.out.trans (HI.out.2.2.1.mono HW0.out.size)⟩
            · have p1 : decide ((i : Int) < (len : Int)) = false := decide_eq_false (by omega)
              have p2 : decide (i < len) = false := decide_eq_false hlt
              clear hlt hil
              go_wp2_with fail
              go_ret
              exact ⟨rfl, HW0.out.trans (HI.out.2.2.1.mono HW0.out.size)⟩
end Go.Proofs.Ytcdbhkihbfjedaa
