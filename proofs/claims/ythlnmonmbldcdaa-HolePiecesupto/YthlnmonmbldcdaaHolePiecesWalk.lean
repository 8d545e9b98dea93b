/-
  The walk of HolePieces.
-/
import Derived.Test.YthlnmonmbldcdaaHPiP
import Derived.Test.YthlnmonmbldcdaaHPair
import Derived.Test.YthlnmonmbldcdaaRows
namespace Go.Proofs.Ythlnmonmbldcdaa
open Go.RowKit Go.Maps H11

theorem Try.infoBool : (Try.prog.info? 4).map (fun i => (i.zero, i.size, i.bytes)) = some (some (.bool false), 1, 1) := by kernel_rfl
theorem one_new (w : World) : ∀ j u, [Value.bool false][j]? = some u → (w.alloc (.cells #[.bool false] 4)).cell? ((⟨w.heap.size, 0, none⟩ : Addr).add j) = some u := by
  intro j u hj
  rw [Addr.add_lit, Nat.zero_add, World.cell?_alloc_at _ _ _ _ rfl]
  simpa using hj
theorem cB_none : ∀ n, cB (fun _ => false) n = 0
  | 0 => rfl
  | n + 1 => by simp [cB, cB_none n]
/-- Put, with the sharper frame -/
theorem H11.HP1.put2 {W : World} {X : Nat → Prop} {B2 db dof dc : Nat} {D ns : List Nat} {pb pc cb cc H k : Nat} {C : Nat → Bool} {s : HS} {v : HV} {wr : World} (h : HP1 W X B2 db dof dc D ns pb pc cb cc H k C s v wr) (x : HPX W X B2 db pb cb D ns dc) (hk : k ≤ 1000) (j : Nat) (hj : j < ns.length) {o n : Nat} {more : Bool} (ho : o = ofs ns j) (hn : n = ns.getD j 0) (hm : more = decide (o + n < D.length)) :
    Calls Try.prog 13 #[.pointer (some ⟨H, 0, none⟩), .int .i64 (o : Int), .slice (some ⟨db, dof + o, none⟩) n (dc - o), .bool more] wr fun r w' => r = .returned (.tuple #[.agg #[.int .i64 ((if C j = true then 0 else n : Nat) : Int), .int .i64 ((n : Int) - ((if C j = true then 0 else n : Nat) : Int)), .bool (C j)], .int .i64 0]) ∧ Ch (HB H v) wr w' ∧ Ch X wr w' ∧
      ∃ s' v', HAt w' H s' v' ∧ PSt D ns (updB C j) s' ∧ s'.tk.length ≤ k + 1 ∧ (∀ x, HB H v' x → X x) ∧ ∀ x, HB H v' x → ¬ (x < wr.heap.size ∧ ¬ HB H v x) := by
  have h2 := h
  obtain ⟨hb, hlo⟩ : (∀ y, HB H v y → HB H v y) ∧ ∀ y, HB H v y → X y := ⟨fun _ q => q, h.lo⟩
  -- with X' = the datagram's own blocks and all new ones
  have x' : HPX W (fun y => HB H v y ∨ wr.heap.size ≤ y) wr.heap.size db pb cb D ns dc := by
    refine ⟨?_, fun y q => .inr q, ?_, ?_, ?_, x.cW, x.cd, x.cp, x.cut, x.d1, x.d2, x.d8, x.dc, x.l1, x.l2⟩
    · rintro y (q | q)
      · exact x.x1 y (h.lo y q)
      · exact Nat.le_trans h.bel.size q
    · rintro (q | q)
      · exact x.xd (h.lo _ q)
      · have h3 := (h.piece j hj)
        have h4 := h.dat.lt
        rcases h4 with q4 | ⟨b, off, q4, q5⟩
        · rw [toI_len] at q4; have := x.d1; omega
        · simp only [Option.some.injEq, Addr.mk.injEq] at q4; omega
    · rintro (q | q)
      · exact x.xp (h.lo _ q)
      · have h3 := World.block_lt_of_cell? wr _ (h.piece j hj).1
        simp only at h3
        omega
    · rintro (q | q)
      · exact x.xc (h.lo _ q)
      · have h3 := World.block_lt_of_cell? wr _ (h.came j hj).1
        simp only at h3
        omega
  have h' : HP1 W (fun y => HB H v y ∨ wr.heap.size ≤ y) wr.heap.size db dof dc D ns pb pc cb cc H k C s v wr := ⟨h.hat, h.pst, h.tk, fun y q => .inl q, Nat.le_refl _, h.bel, h.dat, h.pcs, h.com⟩
  refine (h'.put x' hk j hj ho hn hm).mono ?_
  rintro e w' ⟨rfl, a1, s', v', b1, b2, b3, b4⟩
  have c1 : Ch (HB H v) wr w' := a1.mono (fun y hy q => by
    rcases q with q | q
    · exact q
    · omega)
  refine ⟨rfl, c1, c1.mono (fun y _ q => h.lo y q), s', v', b1, b2, b3, ?_, ?_⟩
  · intro y hy
    rcases b4 y hy with q | q
    · exact h.lo y q
    · exact x.x2 y (Nat.le_trans h.sz q)
  · rintro y hy ⟨q1, q2⟩
    rcases b4 y hy with q | q
    · exact q2 q
    · omega

set_option maxRecDepth 100000 in
set_option maxHeartbeats 51200000 in
theorem holePieces.walk (W : World) (a0 : Option Addr) (len0 cap0 : Nat) (z0 : List Int) (h0 : IsRow .u8 W a0 len0 cap0 z0) (_ : cap0 ≤ 1048576) (a1 : Option Addr) (len1 cap1 : Nat) (z1 : List Int) (h1 : IsRow .i64 W a1 len1 cap1 z1) (_ : cap1 ≤ 1048576) (a2 : Option Addr) (len2 cap2 : Nat) (z2 : List Int) (h2 : IsRow .i64 W a2 len2 cap2 z2) (hcap2 : cap2 ≤ 1048576) :
    Calls Try.prog 3 #[.slice a0 len0 cap0, .slice a1 len1 cap1, .slice a2 len2 cap2] W fun e W' => e = .returned (.bool true) ∧ Below W.heap.size W W' := by
  obtain ⟨bs, hbl, hbs, hb1, _, hb8⟩ := h0.bytes
  obtain ⟨cs, hcl, hcs, hc1, _, _⟩ := h1.seg
  obtain ⟨ys, hyl, hys, hy1, _, _⟩ := h2.seg
  have hl2 : len2 ≤ 1048576 := by omega
  have QC : Hid _ := cut_any W a0 len0 cap0 bs hbl hb1 hbs
  have HB8 : Hid (∀ x ∈ bs.take 4096, x < 256) := fun x hx => hb8 x (List.mem_of_mem_take hx)
  have HOR : Hid (Seg .i64 W a2 ys) := hys
  have HYL : Hid (ys.length = len2) := hyl
  have HCS : Hid (Seg .i64 W a1 cs) := hcs
  have HCL1 : Hid (cs.length = len1) := hcl
  obtain ⟨lb, hlb⟩ : ∃ lb, lb = bs.take 4096 := ⟨_, rfl⟩
  have HLB : Hid (lb.length ≤ 4096) := by show lb.length ≤ 4096; rw [hlb, List.length_take]; omega
  rw [← hlb] at QC HB8
  obtain ⟨nb, hnb⟩ : ∃ nb, nb = lb.length := ⟨_, rfl⟩
  rw [← hnb] at QC HLB
  have HNB : Hid (nb = lb.length) := hnb
  clear hlb hnb hbl hbs hb8 hcl hcs hyl hys h0 h1 h2 hb1 hy1 hcap2
  go_enter Try.func3, Try.ntmps3
  go_wp2_with fail
  refine Calls.mono QC.out ?_
  rintro e1 w1 ⟨ua, uc, rfl, hu1, hb1⟩
  have HU1 : Hid _ := hu1
  clear QC hu1
  go_upto_region 2 with fail
  go_cut [23] (fun x wx => x = .bool (decide (nb = 0)) ∧ w1 = wx)
  case first =>
    by_cases hz : nb = 0
    · have e1 : ((nb : Int) == 0) = true := by rw [beq_iff_eq]; omega
      have HD : Hid (decide (nb = 0) = true) := decide_eq_true hz
      clear hz
      go_wp2
      go_meet
      exact ⟨by rw [HD.out], rfl⟩
    · have e1 : ((nb : Int) == 0) = false := by rw [beq_eq_false_iff_ne]; omega
      have HD : Hid (decide (nb = 0) = false) := decide_eq_false hz
      clear hz
      go_wp2
      go_meet
      exact ⟨by rw [HD.out], rfl⟩
  case rest =>
    obtain ⟨rfl, rfl⟩ := hcut
    go_upto_if 23 with fail
    go_cut [0] (fun x wx => ∃ (D : List Nat) (N db dof dc : Nat), x = .slice (some ⟨db, dof, none⟩) N dc ∧ Hid (N = D.length ∧ 1 ≤ N ∧ N ≤ 4096 ∧ N ≤ dc ∧ (∀ x ∈ D, x < 256) ∧ Seg .u8 wx (some ⟨db, dof, none⟩) (toI D) ∧ db < wx.heap.size) ∧ Below W.heap.size W wx)
    case first =>
      by_cases hz : nb = 0
      · rw [decide_eq_true hz]
        have hbA : Below W.heap.size W (w1.alloc (.cells #[.int .u8 1] 5)) := hb1.alloc hb1.size _
        have HR : Hid (Seg .u8 (w1.alloc (.cells #[.int .u8 1] 5)) (some ⟨w1.heap.size, 0, none⟩) (toI [1])) := by
          refine .inr ⟨_, _, rfl, ?_⟩
          intro i hi
          obtain rfl : i = 0 := by simp [toI] at hi; exact hi
          rw [Nat.zero_add, World.cell?_alloc_at _ _ _ _ rfl]
          rfl
        clear hz HU1
        go_wp2
        go_meet
        exact ⟨[1], 1, w1.heap.size, 0, 1, rfl, ⟨rfl, by omega, by omega, by omega, by simp, HR.out, by simp⟩, hbA⟩
      · rw [decide_eq_false hz]
        have HR : Hid (∃ db : Nat, ua = some ⟨db, 0, none⟩ ∧ nb ≤ uc ∧ Seg .u8 w1 (some ⟨db, 0, none⟩) (toI lb) ∧ db < w1.heap.size) := by
          obtain ⟨a', c', e1, hsg, _, hcl, _⟩ := owns_seg HU1.out (k := .u8)
          rcases HU1.out.2 with ⟨q, q2⟩ | ⟨g, cap, cur, q1, q2, q3, q4, _⟩
          · exfalso
            simp only [Value.slice.injEq] at q
            exact hz q.2.1
          · simp only [Value.slice.injEq, true_and] at q1 e1
            obtain ⟨rfl, rfl⟩ := q1
            obtain ⟨rfl, rfl⟩ := e1
            exact ⟨g, rfl, q4, hsg, (Array.getElem?_eq_some_iff.1 q3).1⟩
        obtain ⟨db, rfl, r2, r3, r4⟩ := HR.out
        have HR2 : Hid (nb = lb.length ∧ 1 ≤ nb ∧ nb ≤ 4096 ∧ nb ≤ uc ∧ (∀ x ∈ lb, x < 256) ∧ Seg .u8 w1 (some ⟨db, 0, none⟩) (toI lb) ∧ db < w1.heap.size) := ⟨HNB.out, by omega, HLB.out, r2, HB8.out, r3, r4⟩
        clear hz HU1 HR r2 r3 r4
        go_wp2
        go_meet
        exact ⟨lb, nb, db, 0, uc, rfl, HR2, hb1⟩
    case rest =>
      obtain ⟨D, N, db, dof, dc, rfl, HD, hbW⟩ := hcut
      obtain ⟨w2, hw2⟩ : ∃ w2, w2 = wc := ⟨_, rfl⟩
      rw [← hw2] at HD hbW ⊢
      clear hw2 HU1 HB8 HLB HNB hb1
      go_upto_region 4 with fail
      go_cut [27] (fun x wx => x = .bool (decide (90 < len1)) ∧ w2 = wx)
      case first =>
        by_cases hz : 90 < len1
        · have e1 : (90 : Int) < (len1 : Int) := by omega
          have HDD : Hid (decide (90 < len1) = true) := decide_eq_true hz
          go_wp2
          go_meet
          exact ⟨by rw [HDD.out], rfl⟩
        · have e1 : ¬ (90 : Int) < (len1 : Int) := by omega
          have HDD : Hid (decide (90 < len1) = false) := decide_eq_false hz
          go_wp2
          go_meet
          exact ⟨by rw [HDD.out], rfl⟩
      case rest =>
        obtain ⟨rfl, rfl⟩ := hcut
        go_upto_if 27 with fail
        go_cut [1] (fun x wx => (∃ (m c1 : Nat) (zs : List Int), x = .slice a1 m c1 ∧ Hid (zs.length = m ∧ m ≤ 90 ∧ Seg .i64 W a1 zs)) ∧ w2 = wx)
        case first =>
          by_cases hz : 90 < len1
          · rw [decide_eq_true hz]
            have HR : Hid ((cs.take 90).length = 90 ∧ 90 ≤ 90 ∧ Seg .i64 W a1 (cs.take 90)) := ⟨by rw [List.length_take, HCL1.out]; omega, Nat.le_refl _, HCS.out.part0 90 (by rw [HCL1.out]; omega)⟩
            have hle : 90 ≤ cap1 := by omega
            clear hz
            go_wp2
            go_meet
            exact ⟨⟨90, cap1, cs.take 90, by first | rfl | simp, HR⟩, rfl⟩
          · rw [decide_eq_false hz]
            have HR : Hid (cs.length = len1 ∧ len1 ≤ 90 ∧ Seg .i64 W a1 cs) := ⟨HCL1.out, by omega, HCS.out⟩
            clear hz
            go_wp2
            go_meet
            exact ⟨⟨len1, cap1, cs, rfl, HR⟩, rfl⟩
        case rest =>
          obtain ⟨⟨m, c1, zs, rfl, HZ⟩, rfl⟩ := hcut
          have QPA : Hid _ := parts_any w2 db dof N dc a1 m c1 zs HD.out.2.2.1 HD.out.2.2.2.1 HZ.out.1 HZ.out.2.1 (HZ.out.2.2.old hbW)
          go_wp2_with fail
          refine Calls.mono QPA.out ?_
          rintro e3 w3 ⟨la, lc, ns, rfl, hcut, hns, hrow, hb3⟩
          have HCUT : Hid (Cut ns N) := hcut
          have HG1 : Hid (0 < ns.length) := by
            show 0 < ns.length
            apply Classical.byContradiction
            intro q
            have e1 : ns = [] := List.eq_nil_of_length_eq_zero (by omega)
            have e2 := hcut.sum
            rw [e1] at e2
            simp at e2
            have := HD.out.2.1
            omega
          obtain ⟨pb, hpb, hpl, hpc⟩ : ∃ pb, la = some ⟨pb, 0, none⟩ ∧ pb < w3.heap.size ∧ ns.length ≤ lc := by
            rcases hrow.2 with ⟨q1, q2⟩ | ⟨g, cap, cur, q1, q2, q3, q4, _⟩
            · have := HG1.out; omega
            · simp only [Value.slice.injEq, true_and] at q1
              obtain ⟨rfl, rfl⟩ := q1
              exact ⟨g, rfl, (Array.getElem?_eq_some_iff.1 q3).1, q4⟩
          subst hpb
          obtain ⟨G, hG⟩ : ∃ G, G = ns.length := ⟨_, rfl⟩
          have HGG : Hid (G = ns.length) := hG
          have hG91 : G ≤ 91 := by rw [hG]; exact hns
          have hGlc : G ≤ lc := by rw [hG]; exact hpc
          have HROW : Hid (w3.ownsRow 0 37 3 (.slice (some ⟨pb, 0, none⟩) ns.length lc) ns.length (pcC db dof dc N 0 ns)) := owns_mono hrow (Nat.zero_le _)
          have hbW3 : Below W.heap.size W w3 := hbW.trans (hb3.mono hbW.size)
          have HSEG3 : Hid (Seg .u8 w3 (some ⟨db, dof, none⟩) (toI D)) := HD.out.2.2.2.2.2.1.old hb3
          have HDB3 : Hid (db < w3.heap.size ∧ pb < w3.heap.size) := ⟨Nat.lt_of_lt_of_le HD.out.2.2.2.2.2.2 hb3.size, hpl⟩
          rw [← hG] at HG1 ⊢
          have QN : Hid _ := new_yes w3 65535 (by omega) (by omega)
          clear QPA hcut hns hrow hb3 hpl hpc hG HZ
          go_wp2_with fail
          refine Calls.mono QN.out ?_
          rintro e4 w4 ⟨H, v, rfl, hat4, hlo4, hb4⟩
          have HAT4 : Hid (HAt w4 H (nw 65535) v) := hat4
          have HLO4 : Hid (∀ x, HB H v x → w3.heap.size ≤ x ∧ x < w4.heap.size) := fun x hx => ⟨hlo4 x hx, hat4.lt x hx⟩
          have hbW4 : Below W.heap.size W w4 := hbW3.trans (hb4.mono hbW3.size)
          have HSEG4 : Hid (Seg .u8 w4 (some ⟨db, dof, none⟩) (toI D)) := HSEG3.out.old hb4
          have HROW4 : Hid (w4.ownsRow 0 37 3 (.slice (some ⟨pb, 0, none⟩) ns.length lc) ns.length (pcC db dof dc N 0 ns)) := (Ch.ofBelow (S := fun _ => False) hb4).owns HROW.out (fun _ _ => id)
          have HS34 : Hid (w3.heap.size ≤ w4.heap.size ∧ W.heap.size ≤ w3.heap.size) := ⟨hb4.size, hbW3.size⟩
          clear QN hat4 hlo4 hb4 HSEG3 HROW hbW hbW3
          obtain ⟨i0, hi, hz0, hz1, hz2⟩ := info_parts Try.infoBool
          go_wp2
          go_loopw [10, 11] (fun cv ix wr => ∃ k : Nat, k ≤ G ∧ ix = .int .i64 (k : Int) ∧ Hid (wr.ownsRow w4.heap.size 4 1 cv k (cmC (fun _ => false) k)) ∧ Hid (Below w4.heap.size w4 wr)) (fun _ ix _ => G - (intOf ix).toNat)
          case atStart => exact ⟨0, Nat.zero_le _, rfl, World.ownsRow_nil _ _ _ _, Below.refl _ _⟩
          case round =>
            obtain ⟨k, hk, rfl, HCO, HBE⟩ := hrel
            obtain ⟨ca, cc, hcv⟩ := owns_shape HCO.out
            subst hcv
            by_cases hlt : k < G
            · have ho := HCO.out
              have hsz := HBE.out.size
              have e1 : (k : Int) < (G : Int) := by omega
              go_wp2_with (first | (at_builtin; refine wpList_append_own_at _ rfl (.tmp 49) (.tmp 50) 31 rfl w4.heap.size 4 i0 _ 1 1 Try.underlying31 hi hz0 hz1 hz2 rfl (by decide) _ _ _ rfl (ho.alloc _) ⟨wr.heap.size, 0, none⟩ 1 1 [.bool false] rfl rfl ?k1 ?k2 ?k3 ?k4 ?k5 ?_))
              case k1 => exact one_new _
              case k2 => intro u hu; simp at hu; subst hu; rfl
              case k3 => unfold maxLen; omega
              case k4 => omega
              case k5 => simp; omega
              intro v5 w5 r1 r2 _ _
              have HCO5 : Hid (w5.ownsRow w4.heap.size 4 1 v5 (k + 1) (cmC (fun _ => false) (k + 1))) := by
                have e2 : cmC (fun _ => false) (k + 1) = cmC (fun _ => false) k ++ [.bool false] := by simp [cmC, List.range_succ]
                show World.ownsRow _ _ _ _ _ _ _
                rw [e2]
                exact r1
              have HBE5 : Hid (Below w4.heap.size w4 w5) := (HBE.out.alloc HBE.out.size _).grown r2 (HBE.out.alloc HBE.out.size (.cells #[.bool false] 4)).size (fun q hq => (ho.lt q hq).1)
              obtain ⟨ca5, cc5, hv5⟩ := owns_shape r1
              subst hv5
              clear r1 r2 ho HCO HBE
              go_wp2
              go_roundw
              case rel => exact ⟨k + 1, by omega, by go_num, HCO5, HBE5⟩
              case measure => simp [intOf]; omega
            · obtain rfl : k = G := by omega
              clear hlt
              obtain ⟨cb, hca, hcb1, hcb2, hcbc⟩ : ∃ cb, ca = some ⟨cb, 0, none⟩ ∧ w4.heap.size ≤ cb ∧ cb < wr.heap.size ∧ k ≤ cc := by
                rcases HCO.out.2 with ⟨q1, q2⟩ | ⟨g, cap, cur, q1, q2, q3, q4, _⟩
                · have := HG1.out; omega
                · simp only [Value.slice.injEq, true_and] at q1
                  obtain ⟨rfl, rfl⟩ := q1
                  exact ⟨g, rfl, q2, (Array.getElem?_eq_some_iff.1 q3).1, q4⟩
              subst hca
              obtain ⟨X, hXX⟩ : ∃ X : Nat → Prop, X = fun x => (w3.heap.size ≤ x ∧ x < w4.heap.size) ∨ wr.heap.size ≤ x := ⟨_, rfl⟩
              obtain ⟨B2, hB2⟩ : ∃ B2, B2 = wr.heap.size := ⟨_, rfl⟩
              have HX : Hid (HPX W X B2 db pb cb D ns dc) := by
                have h1 := HS34.out
                have h2 := HDB3.out
                have h3 := HD.out
                have h4 := HBE.out.size
                refine ⟨?_, ?_, ?_, ?_, ?_, by omega, by omega, by omega, by rw [← h3.1]; exact HCUT.out, by omega, by omega, h3.2.2.2.2.1, by omega, by rw [← HGG.out]; exact HG1.out, by rw [← HGG.out]; exact hG91⟩
                · rw [hXX]; rintro x (q | q) <;> omega
                · rw [hXX, hB2]; exact fun x q => .inr q
                · rw [hXX]; rintro (q | q) <;> omega
                · rw [hXX]; rintro (q | q) <;> omega
                · rw [hXX]; rintro (q | q) <;> omega
              have HW0 : Hid (HP1 W X B2 db dof dc D ns pb lc cb cc H 0 (fun _ => false) (nw 65535) v wr) := by
                have hb := HBE.out
                refine ⟨HAT4.out.below hb, PSt.start D ns HX.out.cut (by have := HX.out.d2; omega), by simp [nw], ?_, by rw [hB2]; exact Nat.le_refl _, hbW4.trans (hb.mono hbW4.size), HSEG4.out.old hb, ?_, ?_⟩
                · intro x hx
                  rw [hXX]
                  exact .inl (HLO4.out x hx)
                · rw [← HD.out.1]
                  exact (Ch.ofBelow (S := fun _ => False) hb).owns HROW4.out (fun _ _ => id)
                · rw [← HGG.out]
                  exact owns_mono HCO.out (Nat.zero_le _)
              have HDN : Hid (N = D.length) := HD.out.1
              obtain ⟨G, hGk⟩ : ∃ G, G = k := ⟨_, rfl⟩
              rw [← hGk] at HGG HG1 hG91 hGlc hcbc ⊢
              have hk0 : G ≤ G := Nat.le_refl _
              clear hXX hB2 HAT4 HLO4 HSEG4 HROW4 HS34 HCO HBE hcb1 hcb2 HDB3 HCUT hbW4 hGk hk HD
              have d0 : ¬ (G : Int) < (G : Int) := by omega
              obtain ⟨pc, hpc⟩ : ∃ pc, pc = lc := ⟨_, rfl⟩
              rw [← hpc] at HW0 hGlc ⊢
              clear hpc
              go_wp2
              go_loopw [12, 13] (fun nv ix wr => ∃ (i : Nat) (C : Nat → Bool) (s : HS) (v : HV), i ≤ 400 ∧ ix = .int .i64 (i : Int) ∧ nv = .int .i64 ((cB C G : Nat) : Int) ∧ Hid (HP1 W X B2 db dof dc D ns pb pc cb cc H i C s v wr)) (fun _ ix _ => 400 - (intOf ix).toNat)
              case atStart => exact ⟨0, fun _ => false, nw 65535, v, by omega, rfl, by rw [cB_none]; rfl, HW0⟩
              case round =>
                obtain ⟨i, C, s, v, hi4, rfl, rfl, HW⟩ := hrel
                clear HW0
                obtain ⟨cN, hcN⟩ : ∃ cN, cN = cB C G := ⟨_, rfl⟩
                have HCN : Hid (cB C G = cN) := hcN.symm
                have HCL : Hid (cN ≤ 91) := by have := cB_le C G; show cN ≤ 91; omega
                rw [← hcN]
                clear hcN
                by_cases hge : len2 + G ≤ i ∨ 400 ≤ i
                · have HBE := HW.out.bel
                  by_cases h1 : len2 + G ≤ i
                  · have d1 : ¬ (i : Int) < (len2 : Int) + (G : Int) := by omega
                    clear hge h1
                    go_wp2
                    go_ret
                    exact ⟨rfl, HBE⟩
                  · have d1 : (i : Int) < (len2 : Int) + (G : Int) := by omega
                    have d2 : ¬ (i : Int) < 400 := by omega
                    clear hge h1
                    go_wp2
                    go_ret
                    exact ⟨rfl, HBE⟩
                · have hi1 : i < len2 + G := by omega
                  have hi2 : i < 400 := by omega
                  have d1 : (i : Int) < (len2 : Int) + (G : Int) := by omega
                  have d2 : (i : Int) < 400 := by omega
                  clear hge
                  go_upto_region 20 with fail
                  go_cut [68] (fun x wx => x = .bool (decide (i < len2)) ∧ wr = wx)
                  case first =>
                    by_cases hlt : i < len2
                    · have e1 : (i : Int) < (len2 : Int) := by omega
                      have HD : Hid (decide (i < len2) = true) := decide_eq_true hlt
                      go_wp2
                      go_meet
                      exact ⟨by rw [HD.out], rfl⟩
                    · have e1 : ¬ (i : Int) < (len2 : Int) := by omega
                      have HD : Hid (decide (i < len2) = false) := decide_eq_false hlt
                      go_wp2
                      go_meet
                      exact ⟨by rw [HD.out], rfl⟩
                  case rest =>
                    obtain ⟨rfl, rfl⟩ := hcut
                    go_upto_if 68 with fail
                    go_cut [14] (fun x wx => (∃ j : Nat, x = .int .i64 (j : Int) ∧ j < G) ∧ wr = wx)
                    case first =>
                      by_cases hlt : i < len2
                      · rw [decide_eq_true hlt]
                        have hos := HOR.out.old HW.out.bel
                        obtain ⟨ob, oo, hoa, hoc⟩ : ∃ ob oo, a2 = some ⟨ob, oo, none⟩ ∧ ∀ q, q < ys.length → wr.cell? ⟨ob, oo + q, none⟩ = some (.int .i64 (ys.getD q 0)) := by
                          rcases hos with q | q
                          · have := HYL.out; rw [q] at this; simp at this; omega
                          · exact q
                        subst hoa
                        have cz := hoc i (by rw [HYL.out]; exact hlt)
                        obtain ⟨z, hz⟩ : ∃ z, z = ys.getD i 0 := ⟨_, rfl⟩
                        rw [← hz] at cz
                        have ha := and40 z
                        obtain ⟨q, hq⟩ : ∃ q, q = (z % 1099511627776).toNat := ⟨_, rfl⟩
                        have ha2 : bits .and .i64 z 1099511627775 = (q : Int) := by rw [ha]; omega
                        have hq2 : q < 1099511627776 := by omega
                        have hG0 : ((G : Int) == 0) = false := by rw [beq_eq_false_iff_ne]; have := HG1.out; omega
                        have e1 : (i : Int) < (len2 : Int) := by omega
                        have hG1 := HG1.out
                        have HQG : Hid (q % G < G) := Nat.mod_lt _ HG1.out
                        clear hos hoc hz ha hq hlt d1 d2 hi1 hi2
                        go_wp2
                        go_meet
                        exact ⟨⟨q % G, by first | rfl | simp, HQG.out⟩, rfl⟩
                      · rw [decide_eq_false hlt]
                        have wa : IntKind.i64.wrap ((len2 : Int) + (G : Int) - 1) = (len2 : Int) + (G : Int) - 1 := by rw [IntKind.wrap_i64]; omega
                        have wb : IntKind.i64.wrap ((len2 : Int) + (G : Int) - 1 - (i : Int)) = ((len2 + G - 1 - i : Nat) : Int) := by rw [IntKind.wrap_i64]; omega
                        have e2 : ¬ ((len2 + G - 1 - i : Nat) : Int) < 0 := by omega
                        have e3 : ¬ (G : Int) ≤ ((len2 + G - 1 - i : Nat) : Int) := by have := HG1.out; omega
                        have HQG : Hid (len2 + G - 1 - i < G) := by show _ < _; have := HG1.out; omega
                        clear hlt
                        go_wp2
                        go_meet
                        exact ⟨⟨len2 + G - 1 - i, by first | rfl | simp, HQG.out⟩, rfl⟩
                    case rest =>
                      obtain ⟨⟨j, rfl, hj⟩, rfl⟩ := hcut
                      have HJ : Hid (j < ns.length) := by rw [← HGG.out]; exact hj
                      obtain ⟨o, ho⟩ : ∃ o, o = ofs ns j := ⟨_, rfl⟩
                      obtain ⟨n, hn⟩ : ∃ n, n = ns.getD j 0 := ⟨_, rfl⟩
                      obtain ⟨more, hmo⟩ : ∃ more, more = decide (o + n < D.length) := ⟨_, rfl⟩
                      have HOO : Hid (o = ofs ns j) := ho
                      have HNN : Hid (n = ns.getD j 0) := hn
                      have HMO : Hid (more = decide (o + n < D.length)) := hmo
                      have hn1 : 1 ≤ n := by rw [hn]; exact HX.out.cut.pos j HJ.out
                      have hn2 : n ≤ 4096 := by
                        have h1 := HX.out.cut.le (j + 1)
                        rw [ofs_succ ns j HJ.out, ← hn] at h1
                        have := HX.out.d2
                        omega
                      have ho2 : o + n ≤ 4096 := by
                        have h1 := HX.out.cut.le (j + 1)
                        rw [ofs_succ ns j HJ.out, ← hn, ← ho] at h1
                        have := HX.out.d2
                        omega
                      obtain ⟨CK, hck⟩ : ∃ CK, CK = C j := ⟨_, rfl⟩
                      have HCK : Hid (C j = CK) := hck.symm
                      obtain ⟨NW, hnw⟩ : ∃ NW : Nat, NW = if CK = true then 0 else n := ⟨_, rfl⟩
                      have HNW : Hid (NW = if CK = true then 0 else n) := hnw
                      have QP : Hid (∀ A : World, HP1 W X B2 db dof dc D ns pb pc cb cc H i C s v A → Calls Try.prog 13 #[.pointer (some ⟨H, 0, none⟩), .int .i64 (o : Int), .slice (some ⟨db, dof + o, none⟩) n (dc - o), .bool more] A fun r w' => r = .returned (.tuple #[.agg #[.int .i64 (NW : Int), .int .i64 ((n : Int) - (NW : Int)), .bool CK], .int .i64 0]) ∧ Ch (HB H v) A w' ∧ Ch X A w' ∧ ∃ s' v', HAt w' H s' v' ∧ PSt D ns (updB C j) s' ∧ s'.tk.length ≤ i + 1 ∧ (∀ x, HB H v' x → X x) ∧ ∀ x, HB H v' x → ¬ (x < A.heap.size ∧ ¬ HB H v x)) := by
                        intro A hA
                        have := hA.put2 HX.out (by omega) j HJ.out ho hn hmo
                        rw [← hck, ← hnw] at this
                        exact this
                      clear ho hn hmo hck hnw
                      go_upto_region 24 with fail
                      go_cut [15, 16] (fun x y wx => (∃ F : Nat, x = .pointer (some ⟨F, 0, none⟩) ∧ FtAt wx F #[.int .i64 (NW : Int), .int .i64 ((n : Int) - (NW : Int)), .bool CK]) ∧ y = .int .i64 0 ∧ ∃ s' v', Ch X wr wx ∧ HAt wx H s' v' ∧ PSt D ns (updB C j) s' ∧ s'.tk.length ≤ i + 1 ∧ ∀ x, HB H v' x → X x)
                      case first =>
                        as_aux_lemma =>
                          refine MixH.start (fun A => A.cell? ⟨pb, j * 3, none⟩ = some (.int .i64 (o : Int)) ∧ A.cell? ⟨pb, j * 3 + 1, none⟩ = some (.slice (some ⟨db, dof + o, none⟩) n (dc - o)) ∧ A.cell? ⟨pb, j * 3 + 2, none⟩ = some (.bool more)) (by kernel_rfl) ?_
                          obtain ⟨w1, hw1⟩ : ∃ w1, w1 = wr.drew := ⟨_, rfl⟩
                          have HW1 : Hid (HP1 W X B2 db dof dc D ns pb pc cb cc H i C s v w1) := by rw [hw1]; exact HW.out.below (drew_below (Below.refl _ _))
                          have HC0 : Hid (Ch X wr w1) := by rw [hw1]; exact (Ch.refl _ _).drew
                          have HPL : Hid (pb < w1.heap.size) := World.block_lt_of_cell? w1 _ (HW1.out.piece j HJ.out).1
                          have hS : w1.cell? ⟨pb, j * 3, none⟩ = some (.int .i64 (o : Int)) ∧ w1.cell? ⟨pb, j * 3 + 1, none⟩ = some (.slice (some ⟨db, dof + o, none⟩) n (dc - o)) ∧ w1.cell? ⟨pb, j * 3 + 2, none⟩ = some (.bool more) := by have := HW1.out.piece j HJ.out; rw [← HOO.out, ← HNN.out] at this; rw [HMO.out]; exact this
                          rw [← hw1]
                          clear hw1
                          refine MixH.takes [true, true, true, true, true, false, true, true, true, true, false, true, true, true, true] 10 (by kernel_rfl) (by kernel_rfl) (by decide) (by kernel_rfl) hS (fun K hK => ?_)
                          simp only [Mix.pick]
                          repeat (go_big_quiet_step (fail))
                          refine wpQuiet_nil (hK _ ?_)
                          clear hK K
                          refine MixH.take 9 5 _ (.int .i64 (o : Int)) rfl (by kernel_rfl) (by kernel_rfl) (by kernel_rfl) (by kernel_rfl) (yields_int (.tmp 98) rfl ⟨pb, j * 3, none⟩ _ rfl rfl (fun A hA => hA.1)) hS (fun a' ha => ?_)
                          simp only [Act.put, List.setIfInBounds_toArray, List.set_cons_succ, List.set_cons_zero] at ha
                          subst ha
                          refine MixH.take 8 10 _ (.slice (some ⟨db, dof + o, none⟩) n (dc - o)) rfl (by kernel_rfl) (by kernel_rfl) (by kernel_rfl) (by kernel_rfl) (yields_bytes (.tmp 103) rfl ⟨pb, j * 3 + 1, none⟩ _ rfl rfl (fun A hA => hA.2.1)) hS (fun a' ha => ?_)
                          simp only [Act.put, List.setIfInBounds_toArray, List.set_cons_succ, List.set_cons_zero] at ha
                          subst ha
                          refine MixH.take 7 15 _ (.bool more) rfl (by kernel_rfl) (by kernel_rfl) (by kernel_rfl) (by kernel_rfl) (yields_bool (.tmp 108) rfl ⟨pb, j * 3 + 2, none⟩ _ rfl rfl (fun A hA => hA.2.2)) hS (fun a' ha => ?_)
                          simp only [Act.put, List.setIfInBounds_toArray, List.set_cons_succ, List.set_cons_zero] at ha
                          subst ha
                          refine MixH.pair [false, false, false, false, false, false, false, false, false, false, false, false, false, false, false, false, true] [false, false, false, false, false, false, false, false, false, false, false, false, false, false, false, false, false, false, false, false, true] 6 16 20 _ _ rfl rfl rfl rfl (by kernel_rfl) (by kernel_rfl) (fun K hK => ?_) (fun K hK => ?_)
                          · as_aux_lemma =>
                              simp only [Mix.pick]
                              go_wp2_with fail
                              refine Calls.mono (QP.out w1 HW1.out) ?_
                              rintro e2 wP ⟨rfl, hchv, hch, s', v', p1, p2, p3, p4, p5⟩
                              have hS' : wP.cell? ⟨pb, j * 3, none⟩ = some (.int .i64 (o : Int)) ∧ wP.cell? ⟨pb, j * 3 + 1, none⟩ = some (.slice (some ⟨db, dof + o, none⟩) n (dc - o)) ∧ wP.cell? ⟨pb, j * 3 + 2, none⟩ = some (.bool more) := ⟨hch.cell hS.1 HX.out.xp, hch.cell hS.2.1 HX.out.xp, hch.cell hS.2.2 HX.out.xp⟩
                              go_wp2
                              refine ⟨rfl, hK _ _ hS' ?_⟩
                              clear hK K hS
                              have hS := hS'
                              clear hS'
                              refine MixH.takes [false, false, false, false, false, false, false, false, false, false, false, false, false, false, false, false, false, true, true, true] 3 (by kernel_rfl) (by kernel_rfl) (by decide) (by kernel_rfl) hS (fun K hK => ?_)
                              simp only [Mix.pick]
                              repeat (go_big_quiet_step (fail))
                              refine wpQuiet_nil (hK _ ?_)
                              clear hK K
                              refine MixH.one [false, false, false, false, false, false, false, false, false, false, false, false, false, false, false, false, false, false, false, false, true] 2 20 _ rfl rfl (by kernel_rfl) (by kernel_rfl) (fun K hK => ?_)
                              simp only [Mix.pick]
                              go_wp2
                              have hbF : Below wP.heap.size wP (wP.alloc (.cells #[.int .i64 0, .int .i64 0, .bool false] 33)) := (Below.refl _ _).alloc (Nat.le_refl _) _
                              have hS' : (wP.alloc (.cells #[.int .i64 0, .int .i64 0, .bool false] 33)).cell? ⟨pb, j * 3, none⟩ = some (.int .i64 (o : Int)) ∧ (wP.alloc (.cells #[.int .i64 0, .int .i64 0, .bool false] 33)).cell? ⟨pb, j * 3 + 1, none⟩ = some (.slice (some ⟨db, dof + o, none⟩) n (dc - o)) ∧ (wP.alloc (.cells #[.int .i64 0, .int .i64 0, .bool false] 33)).cell? ⟨pb, j * 3 + 2, none⟩ = some (.bool more) := ⟨(World.cell?_of_block (hbF.block pb (Nat.lt_of_lt_of_le HPL.out hch.size))).trans hS.1, (World.cell?_of_block (hbF.block pb (Nat.lt_of_lt_of_le HPL.out hch.size))).trans hS.2.1, (World.cell?_of_block (hbF.block pb (Nat.lt_of_lt_of_le HPL.out hch.size))).trans hS.2.2⟩
                              refine ⟨rfl, hK _ _ hS' ?_⟩
                              clear hK K hS
                              have hS := hS'
                              clear hS'
                              obtain ⟨wQ, hwQ⟩ : ∃ wQ, wQ = wP.alloc (.cells #[.int .i64 0, .int .i64 0, .bool false] 33) := ⟨_, rfl⟩
                              have HQ0 : Hid (FtAt wQ wP.heap.size ftz ∧ Below wP.heap.size wP wQ ∧ ¬ pb = wP.heap.size) := by rw [hwQ]; exact ⟨FtAt_new _ _, hbF, by have h1 := HPL.out; have h2 := hch.size; omega⟩
                              obtain ⟨F, hF⟩ : ∃ F, F = wP.heap.size := ⟨_, rfl⟩
                              rw [← hF] at HQ0
                              have HFB : Hid (F = wP.heap.size) := hF
                              rw [← hwQ] at hS ⊢
                              rw [← hF]
                              clear hwQ hbF hF
                              refine MixH.one [false, false, false, false, false, false, false, false, false, false, false, false, false, false, false, false, false, false, false, false, false, true] 1 21 _ rfl rfl (by kernel_rfl) (by kernel_rfl) (fun K hK => ?_)
                              simp only [Mix.pick]
                              have hFt : FtAt wQ F ftz := HQ0.out.1
                              go_wp2_with (first | (refine wpList_store_Ft (.tmp 15) (.tmp 111) rfl rfl F ftz #[.int .i64 (NW : Int), .int .i64 ((n : Int) - (NW : Int)), .bool CK] rfl rfl (ft_one _ _ _) rfl rfl hFt rfl ?_))
                              intro wF hFF kF
                              have hF2 : ¬ pb = F := HQ0.out.2.2
                              replace hS : wF.cell? ⟨pb, j * 3, none⟩ = some (.int .i64 (o : Int)) ∧ wF.cell? ⟨pb, j * 3 + 1, none⟩ = some (.slice (some ⟨db, dof + o, none⟩) n (dc - o)) ∧ wF.cell? ⟨pb, j * 3 + 2, none⟩ = some (.bool more) := ⟨kF.cell hS.1 hF2, kF.cell hS.2.1 hF2, kF.cell hS.2.2 hF2⟩
                              clear hFt hF2
                              go_wp2
                              refine ⟨rfl, hK _ _ hS ?_⟩
                              clear hK K
                              refine MixH.takes [false, false, false, false, false, false, false, false, false, false, false, false, false, false, false, false, false, false, false, false, false, false, true] 0 (by kernel_rfl) (by kernel_rfl) (by decide) (by kernel_rfl) hS (fun K hK => ?_)
                              simp only [Mix.pick]
                              repeat (go_big_quiet_step (fail))
                              refine wpQuiet_nil (hK _ ?_)
                              clear hK K
                              refine MixH.done (by kernel_rfl) ?_
                              have HC1 : Hid (Ch X w1 wF) := (hch.trans (Ch.ofBelow (S := X) (HFB.out ▸ HQ0.out.2.1)) (fun _ _ q => q)).trans kF (fun y hy e => by
                                have e' : y = F := e
                                have h1 := HFB.out
                                have h2 := hch.size
                                omega)
                              have HHF : Hid (HAt wF H s' v') := ((p1.below (HFB.out ▸ HQ0.out.2.1)).ch kF (fun y hy e => by
                                have e' : y = F := e
                                have h1 := p1.lt y hy
                                have h2 := HFB.out
                                omega))
                              go_wp2
                              go_meet
                              exact ⟨⟨F, rfl, hFF⟩, rfl, s', v', HC0.out.trans HC1.out (fun _ _ q => q), HHF.out, p2, p3, p4⟩
                          · as_aux_lemma =>
                              simp only [Mix.pick]
                              go_wp2
                              have hbF : Below w1.heap.size w1 (w1.alloc (.cells #[.int .i64 0, .int .i64 0, .bool false] 33)) := (Below.refl _ _).alloc (Nat.le_refl _) _
                              have hS' : (w1.alloc (.cells #[.int .i64 0, .int .i64 0, .bool false] 33)).cell? ⟨pb, j * 3, none⟩ = some (.int .i64 (o : Int)) ∧ (w1.alloc (.cells #[.int .i64 0, .int .i64 0, .bool false] 33)).cell? ⟨pb, j * 3 + 1, none⟩ = some (.slice (some ⟨db, dof + o, none⟩) n (dc - o)) ∧ (w1.alloc (.cells #[.int .i64 0, .int .i64 0, .bool false] 33)).cell? ⟨pb, j * 3 + 2, none⟩ = some (.bool more) := ⟨(World.cell?_of_block (hbF.block pb HPL.out)).trans hS.1, (World.cell?_of_block (hbF.block pb HPL.out)).trans hS.2.1, (World.cell?_of_block (hbF.block pb HPL.out)).trans hS.2.2⟩
                              refine ⟨rfl, hK _ _ hS' ?_⟩
                              clear hK K hS
                              have hS := hS'
                              clear hS'
                              obtain ⟨wQ, hwQ⟩ : ∃ wQ, wQ = w1.alloc (.cells #[.int .i64 0, .int .i64 0, .bool false] 33) := ⟨_, rfl⟩
                              have HQ0 : Hid (FtAt wQ w1.heap.size ftz ∧ Below w1.heap.size w1 wQ ∧ ¬ pb = w1.heap.size) := by rw [hwQ]; exact ⟨FtAt_new _ _, hbF, by have h1 := HPL.out; omega⟩
                              obtain ⟨F, hF⟩ : ∃ F, F = w1.heap.size := ⟨_, rfl⟩
                              rw [← hF] at HQ0
                              have HFB : Hid (F = w1.heap.size) := hF
                              have HWQ : Hid (HP1 W X B2 db dof dc D ns pb pc cb cc H i C s v wQ) := HW1.out.below (HFB.out ▸ HQ0.out.2.1)
                              rw [← hwQ] at hS ⊢
                              rw [← hF]
                              clear hwQ hbF hF
                              refine MixH.one [false, false, false, false, false, false, false, false, false, false, false, false, false, false, false, false, true] 5 16 _ rfl rfl (by kernel_rfl) (by kernel_rfl) (fun K hK => ?_)
                              simp only [Mix.pick]
                              go_wp2_with fail
                              refine Calls.mono (QP.out wQ HWQ.out) ?_
                              rintro e2 wP ⟨rfl, hchv, hch, s', v', p1, p2, p3, p4, p5⟩
                              have hS' : wP.cell? ⟨pb, j * 3, none⟩ = some (.int .i64 (o : Int)) ∧ wP.cell? ⟨pb, j * 3 + 1, none⟩ = some (.slice (some ⟨db, dof + o, none⟩) n (dc - o)) ∧ wP.cell? ⟨pb, j * 3 + 2, none⟩ = some (.bool more) := ⟨hch.cell hS.1 HX.out.xp, hch.cell hS.2.1 HX.out.xp, hch.cell hS.2.2 HX.out.xp⟩
                              go_wp2
                              refine ⟨rfl, hK _ _ hS' ?_⟩
                              clear hK K hS
                              have hS := hS'
                              clear hS'
                              have HNF : Hid (¬ HB H v F) := fun q => by have h1 := HW1.out.hat.lt F q; have h2 := HFB.out; omega
                              have HNX : Hid (F < wQ.heap.size) := HQ0.out.1.lt
                              refine MixH.takes [false, false, false, false, false, false, false, false, false, false, false, false, false, false, false, false, false, true, true, true] 2 (by kernel_rfl) (by kernel_rfl) (by decide) (by kernel_rfl) hS (fun K hK => ?_)
                              simp only [Mix.pick]
                              repeat (go_big_quiet_step (fail))
                              refine wpQuiet_nil (hK _ ?_)
                              clear hK K
                              refine MixH.one [false, false, false, false, false, false, false, false, false, false, false, false, false, false, false, false, false, false, false, false, false, true] 1 21 _ rfl rfl (by kernel_rfl) (by kernel_rfl) (fun K hK => ?_)
                              simp only [Mix.pick]
                              have hFt : FtAt wP F ftz := FtAt.ch HQ0.out.1 hchv HNF.out
                              go_wp2_with (first | (refine wpList_store_Ft (.tmp 15) (.tmp 111) rfl rfl F ftz #[.int .i64 (NW : Int), .int .i64 ((n : Int) - (NW : Int)), .bool CK] rfl rfl (ft_one _ _ _) rfl rfl hFt rfl ?_))
                              intro wF hFF kF
                              have hF2 : ¬ pb = F := HQ0.out.2.2
                              replace hS : wF.cell? ⟨pb, j * 3, none⟩ = some (.int .i64 (o : Int)) ∧ wF.cell? ⟨pb, j * 3 + 1, none⟩ = some (.slice (some ⟨db, dof + o, none⟩) n (dc - o)) ∧ wF.cell? ⟨pb, j * 3 + 2, none⟩ = some (.bool more) := ⟨kF.cell hS.1 hF2, kF.cell hS.2.1 hF2, kF.cell hS.2.2 hF2⟩
                              clear hFt hF2
                              go_wp2
                              refine ⟨rfl, hK _ _ hS ?_⟩
                              clear hK K
                              refine MixH.takes [false, false, false, false, false, false, false, false, false, false, false, false, false, false, false, false, false, false, false, false, false, false, true] 0 (by kernel_rfl) (by kernel_rfl) (by decide) (by kernel_rfl) hS (fun K hK => ?_)
                              simp only [Mix.pick]
                              repeat (go_big_quiet_step (fail))
                              refine wpQuiet_nil (hK _ ?_)
                              clear hK K
                              refine MixH.done (by kernel_rfl) ?_
                              have HC1 : Hid (Ch X w1 wF) := ((Ch.ofBelow (S := X) (HFB.out ▸ HQ0.out.2.1)).trans hch (fun _ _ q => q)).trans kF (fun y hy e => by
                                have e' : y = F := e
                                have h1 := HFB.out
                                omega)
                              have HHF : Hid (HAt wF H s' v') := p1.ch kF (fun y hy e => p5 y hy (by have e' : y = F := e; rw [e']; exact ⟨HNX.out, HNF.out⟩))
                              go_wp2
                              go_meet
                              exact ⟨⟨F, rfl, hFF⟩, rfl, s', v', HC0.out.trans HC1.out (fun _ _ q => q), HHF.out, p2, p3, p4⟩
                      case rest =>
                        as_aux_lemma =>
                          obtain ⟨⟨F, rfl, hFT⟩, rfl, s', v', hC2, hH2, hPS, hTK, hLO⟩ := hcut
                          obtain ⟨w2, hw2⟩ : ∃ w2, w2 = wc := ⟨_, rfl⟩
                          rw [← hw2] at hFT hC2 hH2 ⊢
                          clear hw2
                          have HFT : Hid (FtAt w2 F #[.int .i64 (NW : Int), .int .i64 ((n : Int) - (NW : Int)), .bool CK]) := hFT
                          have HC2 : Hid (Ch X wr w2) := hC2
                          have HH2 : Hid (HAt w2 H s' v') := hH2
                          have HPS : Hid (PSt D ns (updB C j) s') := hPS
                          have HTK : Hid (s'.tk.length ≤ i + 1) := hTK
                          have HLO : Hid (∀ x, HB H v' x → X x) := hLO
                          have HCJ : Hid (wr.cell? ⟨cb, j, none⟩ = some (.bool CK)) := by have := (HW.out.came j HJ.out).1; rw [HCK.out] at this; exact this
                          have HPJ : Hid (wr.cell? ⟨pb, j * 3 + 1, none⟩ = some (.slice (some ⟨db, dof + o, none⟩) n (dc - o))) := by have := (HW.out.piece j HJ.out).2.1; rw [← HOO.out, ← HNN.out] at this; exact this
                          have hNWn : NW ≤ n := by have := HNW.out; by_cases q : CK = true; rw [if_pos q] at this; omega; rw [if_neg q] at this; omega
                          have hw9 : IntKind.i64.wrap ((n : Int) - (NW : Int) + (NW : Int)) = (n : Int) := by rw [IntKind.wrap_i64]; omega
                          have hnw0 : ((NW : Int) == 0) = CK := by
                            have := HNW.out
                            cases CK
                            · rw [if_neg (by simp)] at this; rw [beq_eq_false_iff_ne]; omega
                            · rw [if_pos rfl] at this; rw [beq_iff_eq]; omega
                          clear hFT hC2 hH2 hPS hTK hLO QP HNW
                          go_upto_region 25 with fail
                          refine MixH.start (fun A => FtAt A F #[.int .i64 (NW : Int), .int .i64 ((n : Int) - (NW : Int)), .bool CK] ∧ A.cell? ⟨cb, j, none⟩ = some (.bool CK) ∧ A.cell? ⟨pb, j * 3 + 1, none⟩ = some (.slice (some ⟨db, dof + o, none⟩) n (dc - o))) (by kernel_rfl) ?_
                          obtain ⟨w3, hw3⟩ : ∃ w3, w3 = w2.drew := ⟨_, rfl⟩
                          have HC3 : Hid (Ch X wr w3) := by rw [hw3]; exact HC2.out.drew
                          have HH3 : Hid (HAt w3 H s' v') := by rw [hw3]; exact HH2.out.below (drew_below (Below.refl _ _))
                          have hS : FtAt w3 F #[.int .i64 (NW : Int), .int .i64 ((n : Int) - (NW : Int)), .bool CK] ∧ w3.cell? ⟨cb, j, none⟩ = some (.bool CK) ∧ w3.cell? ⟨pb, j * 3 + 1, none⟩ = some (.slice (some ⟨db, dof + o, none⟩) n (dc - o)) := by rw [hw3]; exact ⟨HFT.out, (HC2.out.cell HCJ.out HX.out.xc), (HC2.out.cell HPJ.out HX.out.xp)⟩
                          rw [← hw3]
                          clear hw3 HC2 HH2 HFT
                          refine MixH.takes [true, true, true, true, false, true, true, true] 28 (by kernel_rfl) (by kernel_rfl) (by decide) (by kernel_rfl) hS (fun K hK => ?_)
                          simp only [Mix.pick]
                          repeat (go_big_quiet_step (fail))
                          refine wpQuiet_nil (hK _ ?_)
                          clear hK K
                          refine MixH.take 27 4 _ (.bool CK) rfl (by kernel_rfl) (by kernel_rfl) (by kernel_rfl) (by kernel_rfl) (yields_bool (.tmp 116) rfl ⟨F, 2, none⟩ _ rfl rfl (fun A hA => (FtAt.cell hA.1 2).trans rfl)) hS (fun a' ha => ?_)
                          simp only [Act.put, List.setIfInBounds_toArray, List.set_cons_succ, List.set_cons_zero] at ha
                          subst ha
                          refine MixH.take 26 8 _ (.bool CK) rfl (by kernel_rfl) (by kernel_rfl) (by kernel_rfl) (by kernel_rfl) (yields_bool (.tmp 120) rfl ⟨cb, j, none⟩ _ rfl rfl (fun A hA => hA.2.1)) hS (fun a' ha => ?_)
                          simp only [Act.put, List.setIfInBounds_toArray, List.set_cons_succ, List.set_cons_zero] at ha
                          subst ha
                          refine MixH.takes [false, false, false, false, false, false, false, false, false, true, true, true, true, true, true, false, true] 19 (by kernel_rfl) (by kernel_rfl) (by decide) (by kernel_rfl) hS (fun K hK => ?_)
                          simp only [Mix.pick]
                          repeat (go_big_quiet_step (fail))
                          refine wpQuiet_nil (hK _ ?_)
                          clear hK K
                          refine MixH.take 18 15 _ (.bool CK) rfl (by kernel_rfl) (by kernel_rfl) (by kernel_rfl) (by kernel_rfl) (yields_bool (.tmp 127) rfl ⟨cb, j, none⟩ _ rfl rfl (fun A hA => hA.2.1)) hS (fun a' ha => ?_)
                          simp only [Act.put, List.setIfInBounds_toArray, List.set_cons_succ, List.set_cons_zero] at ha
                          subst ha
                          refine MixH.take 17 17 _ (.int .i64 (NW : Int)) rfl (by kernel_rfl) (by kernel_rfl) (by kernel_rfl) (by kernel_rfl) (yields_int (.tmp 129) rfl ⟨F, 0, none⟩ _ rfl rfl (fun A hA => (FtAt.cell hA.1 0).trans rfl)) hS (fun a' ha => ?_)
                          simp only [Act.put, List.setIfInBounds_toArray, List.set_cons_succ, List.set_cons_zero] at ha
                          subst ha
                          refine MixH.takes [false, false, false, false, false, false, false, false, false, false, false, false, false, false, false, false, false, false, true, true, true, true, true, false, true] 11 (by kernel_rfl) (by kernel_rfl) (by decide) (by kernel_rfl) hS (fun K hK => ?_)
                          simp only [Mix.pick]
                          repeat (go_big_quiet_step (fail))
                          refine wpQuiet_nil (hK _ ?_)
                          clear hK K
                          refine MixH.take 10 23 _ (.int .i64 ((n : Int) - (NW : Int))) rfl (by kernel_rfl) (by kernel_rfl) (by kernel_rfl) (by kernel_rfl) (yields_int (.tmp 135) rfl ⟨F, 1, none⟩ _ rfl rfl (fun A hA => (FtAt.cell hA.1 1).trans rfl)) hS (fun a' ha => ?_)
                          simp only [Act.put, List.setIfInBounds_toArray, List.set_cons_succ, List.set_cons_zero] at ha
                          subst ha
                          refine MixH.take 9 25 _ (.int .i64 (NW : Int)) rfl (by kernel_rfl) (by kernel_rfl) (by kernel_rfl) (by kernel_rfl) (yields_int (.tmp 137) rfl ⟨F, 0, none⟩ _ rfl rfl (fun A hA => (FtAt.cell hA.1 0).trans rfl)) hS (fun a' ha => ?_)
                          simp only [Act.put, List.setIfInBounds_toArray, List.set_cons_succ, List.set_cons_zero] at ha
                          subst ha
                          refine MixH.takes [false, false, false, false, false, false, false, false, false, false, false, false, false, false, false, false, false, false, false, false, false, false, false, false, false, false, true, true, true, true, true] 4 (by kernel_rfl) (by kernel_rfl) (by decide) (by kernel_rfl) hS (fun K hK => ?_)
                          simp only [Mix.pick]
                          repeat (go_big_quiet_step (fail))
                          refine wpQuiet_nil (hK _ ?_)
                          clear hK K
                          refine MixH.take 3 31 _ (.slice (some ⟨db, dof + o, none⟩) n (dc - o)) rfl (by kernel_rfl) (by kernel_rfl) (by kernel_rfl) (by kernel_rfl) (yields_bytes (.tmp 143) rfl ⟨pb, j * 3 + 1, none⟩ _ rfl rfl (fun A hA => hA.2.2)) hS (fun a' ha => ?_)
                          simp only [Act.put, List.setIfInBounds_toArray, List.set_cons_succ, List.set_cons_zero] at ha
                          subst ha
                          refine MixH.takes [false, false, false, false, false, false, false, false, false, false, false, false, false, false, false, false, false, false, false, false, false, false, false, false, false, false, false, false, false, false, false, false, true, true, true] 0 (by kernel_rfl) (by kernel_rfl) (by decide) (by kernel_rfl) hS (fun K hK => ?_)
                          simp only [Mix.pick]
                          repeat (go_big_quiet_step (fail))
                          refine wpQuiet_nil (hK _ ?_)
                          clear hK K
                          refine MixH.done (by kernel_rfl) ?_
                          have ccm := hS.2.1
                          clear hS
                          go_upto_region 27 with fail
                          go_cut [152] (fun x wx => x = .bool (!CK) ∧ w3 = wx)
                          case first =>
                            go_wp2
                            go_meet
                            exact ⟨rfl, rfl⟩
                          case rest =>
                            obtain ⟨rfl, rfl⟩ := hcut
                            go_upto_if 152 with fail
                            go_cut [12] (fun x wx => x = .int .i64 ((cB (updB C j) G : Nat) : Int) ∧ w3 = wx)
                            case first =>
                              cases CK with
                              | true =>
                                have HCE : Hid ((cB (updB C j) G : Nat) = cN) := by show _ = _; rw [updB_id C j HCK.out, HCN.out]
                                go_wp2
                                go_meet
                                exact ⟨by rw [HCE.out], rfl⟩
                              | false =>
                                have HCE : Hid ((cB (updB C j) G : Nat) = cN + 1) := by show _ = _; rw [cB_upd C j HCK.out G (by rw [HGG.out]; exact HJ.out), HCN.out]
                                have wcn : IntKind.i64.wrap ((cN : Int) + 1) = ((cN + 1 : Nat) : Int) := by rw [IntKind.wrap_i64]; have := HCL.out; omega
                                have wcm : wrap64 ((cN : Int) + 1) = ((cN + 1 : Nat) : Int) := by unfold wrap64; have := HCL.out; omega
                                go_wp2
                                go_meet
                                exact ⟨by rw [HCE.out]; rfl, rfl⟩
                            case rest =>
                              obtain ⟨rfl, rfl⟩ := hcut
                              obtain ⟨c1N, hc1N⟩ : ∃ c1N, c1N = cB (updB C j) G := ⟨_, rfl⟩
                              have HC1N : Hid (cB (updB C j) G = c1N) := hc1N.symm
                              have hc1l : c1N ≤ 91 := by have := cB_le (updB C j) G; omega
                              rw [← hc1N]
                              clear hc1N
                              have HNX2 : Hid _ := HW.out.next HX.out HC3.out HJ.out HH3.out HPS.out HTK.out HLO.out
                              have cc3 := HNX2.out.2.1
                              have ff3 := HNX2.out.2.2
                              rw [HCK.out] at cc3
                              obtain ⟨w4, hw4⟩ : ∃ w4, w4 = w3.setCell ⟨cb, j, none⟩ (.bool true) := ⟨_, rfl⟩
                              have HW4 : Hid (HP1 W X B2 db dof dc D ns pb pc cb cc H (i + 1) (updB C j) s' v' w4) := by rw [hw4]; exact HNX2.out.1
                              have HWW4 : Hid (w3.setCell ⟨cb, j, none⟩ (.bool true) = w4) := hw4.symm
                              obtain ⟨WH, hWH⟩ : ∃ WH, WH = decide (0 < s'.en ∧ s'.gp = []) := ⟨_, rfl⟩
                              have HCT : Hid (WH = decide (cB (updB C j) G = G)) := by
                                show WH = _
                                rw [hWH]
                                congr 1
                                rw [HGG.out]
                                exact propext ((HPS.out.whole HX.out.cut HX.out.d1 HX.out.l1).trans (cB_all _ _).symm)
                              have QB : Hid _ := bytes_any w4 H s' v' HW4.out.hat (by have h1 := HPS.out.bl; have h2 := HX.out.d2; omega) WH hWH
                              have HBS : Hid (WH = true → s'.bs = D) := by
                                intro q
                                rw [hWH] at q
                                exact HPS.out.all HX.out.cut HX.out.l1 ((HPS.out.whole HX.out.cut HX.out.d1 HX.out.l1).1 (of_decide_eq_true q))
                              have QW : Hid (∀ A : World, HAt A H s' v' → Calls Try.prog 15 #[.pointer (some ⟨H, 0, none⟩)] A fun r w' => r = .returned (.bool WH) ∧ A = w') := by
                                intro A hA
                                rw [hWH]
                                exact whole_any A H s' v' hA
                              clear hw4 hWH HNX2 HPS HTK HLO HC3 HH3
                              go_upto_region 30 with fail
                              rw [HWW4.out]
                              clear HWW4 cc3 ff3
                              go_wp2_with fail
                              refine Calls.mono QB.out ?_
                              rintro e5 w5 ⟨ua, un, uc, rfl, hul, hub, hb5⟩
                              have HW5 : Hid (HP1 W X B2 db dof dc D ns pb pc cb cc H (i + 1) (updB C j) s' v' w5) := HW4.out.below hb5
                              have HUB : Hid _ := hub
                              have HUL : Hid _ := hul
                              clear QB hub hul hb5 HW4
                              go_wp2_with fail
                              refine Calls.mono (QW.out _ HW5.out.hat) ?_
                              rintro e6 w6 ⟨rfl, rfl⟩
                              clear QW
                              cases hwh : WH with
                              | true =>
                                as_aux_lemma =>
                                  have hce : cB (updB C j) G = G := by have := HCT.out; rw [hwh] at this; exact of_decide_eq_true this.symm
                                  have hci : (c1N : Int) = (G : Int) := by have h1 := HC1N.out; omega
                                  have hcb : ((c1N : Int) == (G : Int)) = true := by rw [hci]; simp
                                  have QS : Hid (Calls Try.prog 16 #[.slice ua un uc, .slice (some ⟨db, dof, none⟩) N dc] w5 fun r w' => r = .returned (.bool true) ∧ Below w5.heap.size w5 w') := by
                                    have hbz : bz s' WH = D := by rw [hwh, bz_t]; exact HBS.out hwh
                                    have hu := HUB.out
                                    rw [hbz] at hu
                                    obtain ⟨a', c', e1, hsg, _⟩ := owns_seg hu (k := .u8)
                                    simp only [Value.slice.injEq, true_and] at e1
                                    obtain ⟨rfl, rfl⟩ := e1
                                    have hl := HUL.out
                                    rw [hbz] at hl
                                    have := same_any ua (some ⟨db, dof, none⟩) un N uc dc D D w5 hl HDN.out.symm hsg HW5.out.dat (by have := HX.out.d2; have := HDN.out; omega)
                                    rw [decide_eq_true rfl] at this
                                    exact this
                                  clear hwh HUB HUL HBS HCT hce hci
                                  go_wp2_with fail
                                  refine Calls.mono QS.out ?_
                                  rintro e7 w7 ⟨rfl, hb7⟩
                                  have HW7 : Hid (HP1 W X B2 db dof dc D ns pb pc cb cc H (i + 1) (updB C j) s' v' w7) := HW5.out.below hb7
                                  clear QS hb7 HW5
                                  go_wp2
                                  go_roundw
                                  case rel => exact ⟨i + 1, updB C j, s', v', by omega, by go_num, by rw [HC1N.out], HW7⟩
                                  case measure => simp [intOf]; omega
                              | false =>
                                as_aux_lemma =>
                                  have hce : cB (updB C j) G ≠ G := by have := HCT.out; rw [hwh] at this; exact of_decide_eq_false this.symm
                                  have hcb : ((c1N : Int) == (G : Int)) = false := by rw [beq_eq_false_iff_ne]; intro q; apply hce; have h1 := HC1N.out; omega
                                  clear hwh HUB HUL HBS HCT hce
                                  go_wp2
                                  go_roundw
                                  case rel => exact ⟨i + 1, updB C j, s', v', by omega, by go_num, by rw [HC1N.out], HW5⟩
                                  case measure => simp [intOf]; omega

end Go.Proofs.Ythlnmonmbldcdaa
