/-
  QueueFair: the walk.
-/
import Derived.Test.YtclkcpdghpaboaaQFr
import Derived.Test.YtclkcpdghpaboaaQueueLinesWalk
namespace Go.Proofs.Ytclkcpdghpaboaa
open Go.RowKit Go.ChangeShapes Go.WideShapes

theorem and_4095 (n : Int) : bits .and .i64 n 4095 = n % 4096 := by
  have h127 : (BitVec.ofInt 64 4095).toNat = 2 ^ 12 - 1 := by decide
  have key : (BitVec.ofInt 64 n &&& BitVec.ofInt 64 4095).toNat = (n % ((2 ^ 64 : Nat) : Int)).toNat % 2 ^ 12 := by
    rw [BitVec.toNat_and, BitVec.toNat_ofInt, h127, Nat.and_two_pow_sub_one_eq_mod]
  show IntKind.i64.wrap ((BitVec.ofInt 64 n &&& BitVec.ofInt 64 4095).toNat : Nat) = n % 4096
  rw [key, IntKind.wrap_i64]
  omega
theorem run_bof (oc os oi : Int) (w : World) : (Instr.build 43 #[(2, .int .i64 oc), (3, .int .i64 os), (4, .int .i64 oi)]).run Try.prog w = .ok (.agg (opC ⟨0, false, oc, os, oi⟩)) w := by kernel_rfl
theorem wpList_bof {ops : Array Oper} {rest : List Oper} {o : Oper} {a_ : Act} {w : World} {Q : Exit → Act → World → Prop} (y0 y1 y2 : Operand) (ho : o.op = .build 43 #[(2, y0), (3, y1), (4, y2)]) (oc os oi : Int) (h0 : a_.eval y0 = .int .i64 oc) (h1 : a_.eval y1 = .int .i64 os) (h2 : a_.eval y2 = .int .i64 oi) (hw : Region.wanted o (yielded ops a_.tmps) = true)
    (h : wpList Try.prog ops Q rest (a_.put o.dst (.agg (opC ⟨0, false, oc, os, oi⟩))) w) : wpList Try.prog ops Q (o :: rest) a_ w := by
  refine wpList_step fun K hK => ?_
  rw [if_pos hw]
  have hrun : (execOp a_.eval o).run Try.prog w = .ok (.value (.agg (opC ⟨0, false, oc, os, oi⟩))) w := by
    obtain ⟨dst, op, type, pos, after, guard⟩ := o
    simp only at ho
    subst ho
    simp only [execOp, Sem.run_bind, List.map_toArray, List.map_cons, List.map_nil, h0, h1, h2, run_bof oc os oi w, Result.andThen_ok]
    rfl
  unfold Oper.wp
  rw [hrun]
  exact hK _ _ h
/-- what a class was served -/
def sOf (ms : List BM) (i : Nat) : Int := (ms.getD i m0).s
theorem sOf_some {ms : List BM} {i : Nat} {m : BM} (h : ms[i]? = some m) : sOf ms i = m.s := by unfold sOf; rw [List.getD, h]; rfl
theorem Fr.congr {A : Nat → Prop} {q s s' : Nat → Int} {r : Int} {t : TN} (h : Fr A q s r t) (e : ∀ i, A i → s' i = s i) : Fr A q s' r t := ⟨fun i hi => by rw [e i hi]; exact h.eq i hi, h.hi⟩
/-- how many more items a line takes -/
def lnM (w : World) (lv : Value) (i : Nat) : Nat := match lv with
  | .slice (some p) _ _ => (match w.cell? ⟨p.block, i, none⟩ with | some (.slice _ n _) => 2 - n | _ => 0)
  | _ => 0
theorem lnM_is {N B : Nat} {lv bv sv : Value} {ms : List BM} {w : World} (h : BK N w B lv bv sv ms) {i : Nat} {m : BM} (hm : ms[i]? = some m) : lnM w lv i = 2 - m.M.length := by
  obtain ⟨g, cap, rfl, _, _, hr⟩ := h.l.at bmV_len i m hm
  have h1 := hr 0 m.v rfl
  rw [Nat.mul_one, Nat.add_zero] at h1
  unfold lnM
  simp only
  rw [h1]
  rfl
/-- QueueFair under way, in numbers -/
structure Fs (l2 : List LI) (cs : List CL) (t : TN) (ms : List BM) (k : Int) : Prop where
  wq : Wq cs
  fr : ∃ r, Fr (A2 l2) (q2 l2) (sOf ms) r t
  sv : Sv (65535 * k) ms
theorem QL.n {W : World} {P G : Nat} {cq : List CL} {t : TN} {B : Nat} {lv bv sv : Value} {ms : List BM} {cb : List CL} {a : Option Addr} {l2 : List LI} {w : World} (h : QL W P G cq t B lv bv sv ms cb a l2 w) : cb.length = l2.length ∧ ms.length = l2.length := by
  have h1 := li_len h.li
  have h2 := h.ag.len
  omega
theorem Fs.push {l2 : List LI} {cs : List CL} {t : TN} {ms ms' : List BM} {k : Int} (h : Fs l2 cs t ms k) {i : Nat} (hi : i < cs.length) (ha : apB (cAt cs i).li = true) (h2 : (cAt cs i).L.length < 2) {s n : Int} (hb : s * 2 ≤ (cAt cs i).li.by') (hm : ms'.map BM.s = ms.map BM.s) : Fs l2 (cs.set i (joinC (cAt cs i) s n)) t ms' k := by
  obtain ⟨r, hr⟩ := h.fr
  refine ⟨h.wq.push hi ha h2 hb, ⟨r, hr.congr (fun j _ => ?_)⟩, h.sv.same hm⟩
  have h3 := congrArg (fun l => l[j]?) hm
  simp only [List.getElem?_map] at h3
  unfold sOf
  simp only [List.getD]
  cases e1 : ms'[j]? <;> cases e2 : ms[j]? <;> simp [e1, e2] at h3 ⊢
  exact h3
theorem Fs.pop {l2 : List LI} {cs : List CL} {t : TN} {ms ms' : List BM} {k : Int} (h : Fs l2 cs t ms k) (hq : QOk cs t) (hl : cs.map CL.li = l2) (hf : Fu cs cs.length) (ha : anyR cs = true) {i : Nat} {x : Int × Int} {M' : List (Int × Int)} (hc : popC cs t = (i : Int)) (hL : (cAt cs i).L = x :: M') (hml : ms.length = l2.length) (hml' : ms'.length = l2.length) (hs1 : ∀ m m', ms[i]? = some m → ms'[i]? = some m' → m'.s = m.s + x.2) (hs2 : ∀ j, j ≠ i → ms'[j]? = ms[j]?) (hsv : Sv (65535 * k + 65535) ms') : Fs l2 (popQ cs t) (popT cs t) ms' (k + 1) := by
  obtain ⟨r, hr⟩ := h.fr
  obtain ⟨h1, r', h2⟩ := h.wq.pop hq hl hf ha hr
  have hi : (fin cs t).at' = i := by
    unfold popC at hc
    rw [if_pos ha] at hc
    omega
  rw [hi, hL] at h2
  refine ⟨h1, ⟨r', h2.congr (fun j hj => ?_)⟩, hsv.mono (by omega)⟩
  by_cases e : j = i
  · subst e
    rw [up_same]
    have hj1 := hj.1
    rw [sOf_some (List.getElem?_eq_getElem (by omega : j < ms'.length)), sOf_some (List.getElem?_eq_getElem (by omega : j < ms.length))]
    exact hs1 _ _ (List.getElem?_eq_getElem _) (List.getElem?_eq_getElem _)
  · rw [up_ne e]
    unfold sOf
    simp only [List.getD]
    rw [hs2 j e]
set_option maxHeartbeats 12800000 in
set_option maxRecDepth 100000 in
theorem queueFair.walk (w : World) (a : Option Addr) (n cap : Nat) (ls : List LI) (hl : ls.length = n) (hs : ListG 5 liL LiW w a ls) (hn : n ≤ 1048576) (za : Option Addr) (zn zc : Nat) (z : List Int) (hz : IsRow .i64 w za zn zc z) (hzc : zc ≤ 1048576) (pops : Int) (_ : (Lit.int .i64 pops).wf = true) : Calls Try.prog 3 #[.slice a n cap, .slice za zn zc, .int .i64 pops] w fun e w' => e = .returned (.bool true) ∧ Below w.heap.size w w' := by
  obtain ⟨ys, hyl, hyseg, hyc, _, _⟩ := hz.seg
  have HY : Hid (Seg .i64 w za ys ∧ ys.length = zn) := ⟨hyseg, hyl⟩
  have hzn : zn ≤ 1048576 := by omega
  have HK : Hid (LsK w w a ls) := LsK.first hs
  have QO : Hid _ := queueOf_any w a n cap ls w hl HK.out (by omega) (Below.refl _ _)
  obtain ⟨l2, hl2e⟩ : ∃ l2, l2 = qls ls := ⟨_, rfl⟩
  have HNB : Hid (nwB l2 = true) := by show _ = _; rw [hl2e]; exact qls_ok ls
  rw [← hl2e] at QO
  clear hl hs hn hl2e HK hyl hyseg hyc hz hzc
  go_enter Try.func3, Try.ntmps3
  go_wp2_with fail
  refine Calls.mono QO.out ?_
  rintro e1 w1 ⟨P, G, a1, c1, rfl, q1, b1, hP, hG, lk1⟩
  obtain ⟨m, hm⟩ : ∃ m, l2.length = m := ⟨_, rfl⟩
  have hm8 : 1 ≤ m ∧ m ≤ 8 := by have h1 := q1.len; rw [List.length_map, hm] at h1; exact h1
  rw [hm]
  have H1 : Hid (Q1 w P G (c0s l2) tz w1 ∧ LsK w w1 a1 l2 ∧ l2.length = m) := ⟨⟨_, csOf_mk l2, q1, b1, mk_out hP hG⟩, lk1, hm⟩
  have HL2 : Hid (l2.length = m ∧ ∀ l ∈ l2, LiOk l) := ⟨hm, fun l hl => by
    have h := HNB.out
    simp only [nwB, Bool.and_eq_true, decide_eq_true_eq, List.all_eq_true] at h
    exact lmB_ok (h.2 l hl)⟩
  clear q1 b1 hP hG lk1 QO hm
  go_wp2_with fail
  refine Calls.mono (book_any m hm8.2 w1) ?_
  rintro e2 w2 ⟨B, lv, bv, sv, rfl, k2, b2⟩
  have H2 : Hid (QL w P G (c0s l2) tz B lv bv sv (List.replicate m m0) (c0s l2) a1 l2 w2) := by
    have h1 := QL.first (H1.out.1.below b2) (by rw [H1.out.2.2]; exact k2.mono H1.out.1.bel.size) ((H1.out.2.1).keep H1.out.1.bel (H1.out.1.below b2).bel (Kp.ofBelow b2))
    rw [H1.out.2.2] at h1
    exact h1
  clear k2 b2 H1
  have QP : Hid _ := H2.out.push 0 1 7
  rw [push_first2 HNB.out] at QP
  go_wp2_with fail
  refine Calls.mono QP.out ?_
  rintro e3 w3 ⟨rfl, q3, k3⟩
  have H3 : Hid (QL w P G (pushCs (c0s l2) 0 1 7) tz B lv bv sv (List.replicate m m0) (c0s l2) a1 l2 w3) := q3
  clear q3 k3 QP
  go_wp2_with fail
  refine Calls.mono (num_any 0 w3) ?_
  rintro e4 w4 ⟨rfl, rfl⟩
  obtain ⟨f1, f2, f3, f4, f5, f6⟩ := first_pop HNB.out (push_first2 HNB.out) 7
  have QP : Hid _ := H3.out.pop
  rw [f1, f2, f3, f4] at QP
  obtain ⟨cs0, hcs0⟩ : ∃ c, c = popQ (pushCs (c0s l2) 0 1 7) tz := ⟨_, rfl⟩
  rw [← hcs0] at QP f5 f6
  go_wp2_with fail
  refine Calls.mono QP.out ?_
  rintro e5 w5 ⟨rfl, q5, k5⟩
  have H5 : Hid (QL w P G cs0 ⟨0, true, fun _ => 0⟩ B lv bv sv (List.replicate m m0) cs0 a1 l2 w5 ∧ Fs l2 cs0 ⟨0, true, fun _ => 0⟩ (List.replicate m m0) ((0 : Nat) : Int)) := by
    refine ⟨⟨q5.q, q5.k, ⟨?_, fun i x hx => ?_⟩, f5, q5.ls⟩, Wq.first f6, ⟨0, (Fr.first l2 HNB.out).congr (fun i _ => ?_)⟩, (Sv.zero m).mono (by omega)⟩
    · have h1 := li_len f5; rw [List.length_replicate, ← HL2.out.1, h1]
    · rw [List.eq_of_mem_replicate (List.mem_of_getElem? hx), f6]; exact ⟨rfl, rfl⟩
    · unfold sOf
      simp only [List.getD, List.getElem?_replicate]
      split <;> rfl
  clear q5 k5 QP f1 f2 f3 f4 f5 f6 hcs0 H2 H3
  go_upto_region 11 with fail
  go_wp2_with fail
  go_loopw [9, 13] (fun tx nx wr => ∃ (τ k : Nat) (cs : List CL) (t : TN) (ms : List BM), tx = .int .i64 (τ : Nat) ∧ nx = .int .i64 (k : Nat) ∧ τ ≤ zn ∧ k ≤ 3000 ∧ Hid (QL w P G cs t B lv bv sv ms cs a1 l2 wr ∧ Fs l2 cs t ms (k : Int))) (fun _ nx _ => 3000 - (intOf nx).toNat)
  case atStart => exact ⟨0, 0, _, _, _, rfl, rfl, Nat.zero_le _, by omega, H5.out.1, H5.out.2⟩
  case round =>
    clear H5
    obtain ⟨τ, k, cs, t, ms, rfl, rfl, hτ, hk, HI⟩ := hrel
    by_cases hgo : (k : Int) < pops ∧ k < 3000
    case neg =>
      have HG : Hid (¬ ((k : Int) < pops ∧ k < 3000)) := hgo
      have QF : Hid _ := fair_any w.heap.size B lv bv sv ms a1 m c1 l2 wr HI.out.1.k HI.out.1.ls.li HL2.out.1 (by rw [HI.out.1.n.2]; exact HL2.out.1) hm8.2 (fun l hl => (HL2.out.2 l hl).q) (HI.out.2.sv.mono (by omega)) (fun i j x y p r hx hy hp hr hax hay => by
        obtain ⟨r', hf⟩ := HI.out.2.fr
        have hil : i < l2.length := (List.getElem?_eq_some_iff.1 hx).1
        have hjl : j < l2.length := (List.getElem?_eq_some_iff.1 hy).1
        have ex : l2.getD i lz = x := by rw [List.getD, hx]; rfl
        have ey : l2.getD j lz = y := by rw [List.getD, hy]; rfl
        have hA1 : A2 l2 i := ⟨hil, by rw [ex]; exact hax⟩
        have hA2 : A2 l2 j := ⟨hjl, by rw [ey]; exact hay⟩
        have q1 := (HL2.out.2 x (List.mem_of_getElem? hx)).q
        have q2_ := (HL2.out.2 y (List.mem_of_getElem? hy)).q
        have h1 := hf.fair hA1 hA2 (by show 0 ≤ (l2.getD i lz).q; rw [ex]; omega) (by show 0 ≤ (l2.getD j lz).q; rw [ey]; omega) (HI.out.1.q.ok.tn.lo i (by have := HL2.out.1; omega))
        have e1 : q2 l2 i = x.q := by unfold q2; rw [ex]
        have e2 : q2 l2 j = y.q := by unfold q2; rw [ey]
        rw [e1, e2, sOf_some hp, sOf_some hr] at h1
        exact h1)
      by_cases hg1 : (k : Int) < pops
      · have p1 : decide ((k : Int) < pops) = true := decide_eq_true hg1
        have p2 : decide ((k : Int) < 3000) = false := decide_eq_false (by have := HG.out; omega)
        have p3 : decide (k < 3000) = false := decide_eq_false (by have := HG.out; omega)
        clear hg1 hgo
        go_wp2_with fail
        refine Calls.mono QF.out ?_
        rintro ef wf ⟨rfl, bf⟩
        have HE : Hid (Below w.heap.size w wf) := HI.out.1.q.bel.trans (bf.mono HI.out.1.q.bel.size)
        clear bf QF
        go_wp2
        go_ret
        exact ⟨rfl, HE.out⟩
      · have p1 : decide ((k : Int) < pops) = false := decide_eq_false hg1
        clear hg1 hgo
        go_wp2_with fail
        refine Calls.mono QF.out ?_
        rintro ef wf ⟨rfl, bf⟩
        have HE : Hid (Below w.heap.size w wf) := HI.out.1.q.bel.trans (bf.mono HI.out.1.q.bel.size)
        clear bf QF
        go_wp2
        go_ret
        exact ⟨rfl, HE.out⟩
    obtain ⟨hg1, hg2⟩ := hgo
    have p1 : decide ((k : Int) < pops) = true := decide_eq_true hg1
    have p2 : decide ((k : Int) < 3000) = true := decide_eq_true (by omega)
    have p3 : decide (k < 3000) = true := decide_eq_true hg2
    have wk1 : IntKind.i64.wrap ((k : Int) + 1) = (k : Int) + 1 := i64_f _ (by omega) (by omega)
    go_upto_region 14 with fail
    clear p1 p2 p3
    go_upto_block 2 with fail
    go_wp2_with fail
    go_loopw [9, 14] (fun tx ix wr => ∃ (τ i : Nat) (cs : List CL) (ms : List BM), tx = .int .i64 (τ : Nat) ∧ ix = .int .i64 (i : Nat) ∧ τ ≤ zn ∧ i ≤ m ∧ Hid (QL w P G cs t B lv bv sv ms cs a1 l2 wr ∧ Fs l2 cs t ms (k : Int) ∧ Fu cs i)) (fun _ ix _ => m - (intOf ix).toNat)
    case atStart => exact ⟨τ, 0, cs, ms, rfl, rfl, hτ, Nat.zero_le _, HI.out.1, HI.out.2, fun j hj => by omega⟩
    case round =>
      clear HI
      obtain ⟨τ, i, cs, ms, rfl, rfl, hτ, hi, HJ⟩ := hrel
      by_cases hin : i < m
      · as_aux_lemma =>
          have p1 : decide ((i : Int) < (m : Int)) = true := decide_eq_true (by omega)
          have p2 : decide (i < m) = true := decide_eq_true hin
          have i0 : (0 : Int) ≤ (i : Int) := by omega
          have i1 : (i : Int) < (m : Int) := by omega
          have i2 : ((i : Int)).toNat = i := by omega
          have wi1 : IntKind.i64.wrap ((i : Int) + 1) = (i : Int) + 1 := i64_f _ (by omega) (by omega)
          obtain ⟨x, hx⟩ : ∃ x, l2[i]? = some x := ⟨_, List.getElem?_eq_getElem (by rw [HL2.out.1]; exact hin)⟩
          obtain ⟨by_, hby⟩ : ∃ b, x.by' = b := ⟨_, rfl⟩
          have hbb : 1 ≤ by_ ∧ by_ ≤ 67108864 := by rw [← hby]; exact (HL2.out.2 x (List.mem_of_getElem? hx)).by'
          have HXX : Hid (l2[i]? = some x ∧ x.by' = by_) := ⟨hx, hby⟩
          clear hx hby
          go_wp2_with fail
          go_loopw [9] (fun tx wr => ∃ (τ : Nat) (cs : List CL) (ms : List BM), tx = .int .i64 (τ : Nat) ∧ τ ≤ zn ∧ Hid (QL w P G cs t B lv bv sv ms cs a1 l2 wr ∧ Fs l2 cs t ms (k : Int) ∧ Fu cs i)) (fun _ wr => lnM wr lv i)
          case atStart => exact ⟨τ, cs, ms, rfl, hτ, HJ.out.1, HJ.out.2.1, HJ.out.2.2⟩
          case round =>
            clear HJ
            obtain ⟨τ, cs, ms, rfl, hτ, HQ⟩ := hrel
            have hiC : i < cs.length := by rw [HQ.out.1.n.1, HL2.out.1]; exact hin
            have hli : (cAt cs i).li = x := by rw [li_at HQ.out.1.li, List.getD, HXX.out.1]; rfl
            obtain ⟨mm, hmm⟩ : ∃ q, ms[i]? = some q := ⟨_, List.getElem?_eq_getElem (by rw [HQ.out.1.n.2, HL2.out.1]; exact hin)⟩
            obtain ⟨nn, hnn⟩ : ∃ q, (cAt cs i).L.length = q := ⟨_, rfl⟩
            have hMM : mm.M.length = nn := by rw [(HQ.out.1.ag.at' i mm hmm).1]; exact hnn
            obtain ⟨_, g, off, ha1, hlt1, hcx⟩ := HQ.out.1.ls.li.at i x HXX.out.1
            have HRX : Hid (wr.rangeAt g (off + i * 5) (liA x).toList) := fun j u hj => by
              have hj5 : j < 5 := (List.getElem?_eq_some_iff.1 hj).1
              rw [hcx j hj5]; exact hj
            have QA : Hid _ := apt_any x wr
            have HCS : Hid (i < cs.length ∧ (cAt cs i).li = x ∧ ms[i]? = some mm ∧ (cAt cs i).L.length = nn ∧ mm.M.length = nn) := ⟨hiC, hli, hmm, hnn, hMM⟩
            subst ha1
            clear hiC hli hmm hnn hMM hcx hlt1
            go_wp2_with (first | (refine wpList_mid_lim (.tmp 66) rfl g (off + i * 5) x rfl HRX.out rfl ?_))
            refine Calls.mono QA.out ?_
            rintro ez w6 ⟨rfl, b6⟩
            clear QA
            have H6 : Hid (QL w P G cs t B lv bv sv ms cs (some ⟨g, off, none⟩) l2 w6) := HQ.out.1.below b6
            clear b6
            cases hax : apB x with
            | false =>
              have HAX : Hid (apB x = false) := hax
              clear hax
              go_wp2
              go_roundw
              case rel => exact ⟨τ, i + 1, cs, ms, rfl, by go_num, hτ, by omega, H6.out, HQ.out.2.1, HQ.out.2.2.next (fun _ h => by rw [HCS.out.2.1, HAX.out] at h; cases h)⟩
              case measure => simp [intOf]; omega
            | true =>
              have HAX : Hid (apB x = true) := hax
              clear hax
              obtain ⟨gl, lcap, hlv, _, _, hrl⟩ := H6.out.k.l.at bmV_len i mm HCS.out.2.2.1
              rw [HQ.out.1.n.2, HL2.out.1] at hlv
              subst hlv
              have c0 : w6.cell? ⟨B, 0, none⟩ = some (.slice (some ⟨gl, 0, none⟩) m lcap) := by rw [H6.out.k.at'.cell 0]; rfl
              have cl : w6.cell? ⟨gl, i, none⟩ = some (.slice mm.a nn mm.c) := by
                have h1 := hrl 0 mm.v rfl
                rw [Nat.mul_one, Nat.add_zero] at h1
                rw [h1]
                unfold BM.v
                rw [HCS.out.2.2.2.2]
              clear hrl
              have h2n : nn ≤ 2 := by rw [← HCS.out.2.2.2.1]; exact HQ.out.2.1.wq.two i HCS.out.1 (by rw [HCS.out.2.1]; exact HAX.out)
              by_cases hn2 : nn < 2
              case neg =>
                have d1 : decide ((nn : Int) < 2) = false := decide_eq_false (by omega)
                have d2 : decide (nn < 2) = false := decide_eq_false hn2
                have HN2 : Hid (nn = 2) := by show _ = _; omega
                clear hn2 h2n
                go_wp2
                go_roundw
                case rel => exact ⟨τ, i + 1, cs, ms, rfl, by go_num, hτ, by omega, H6.out, HQ.out.2.1, HQ.out.2.2.next (fun _ _ => by rw [HCS.out.2.2.2.1]; exact HN2.out)⟩
                case measure => simp [intOf]; omega
              have d1 : decide ((nn : Int) < 2) = true := decide_eq_true (by omega)
              have d2 : decide (nn < 2) = true := decide_eq_true hn2
              have HN2 : Hid (nn < 2) := hn2
              go_upto_region 19 with fail
              clear c0 cl d1 d2 h2n hn2
              go_upto_if 83 with fail
              go_cut [9, 15] (fun tx sx wx => ∃ (τ' s : Nat), tx = .int .i64 (τ' : Nat) ∧ sx = .int .i64 (s : Nat) ∧ τ' ≤ zn ∧ 1 ≤ s ∧ s ≤ 4096 ∧ w6 = wx)
              case first =>
                by_cases ht : τ < zn
                · have t1 : decide ((τ : Int) < (zn : Int)) = true := decide_eq_true (by omega)
                  have t2 : decide (τ < zn) = true := decide_eq_true ht
                  have t3 : (0 : Int) ≤ (τ : Int) := by omega
                  have t4 : (τ : Int) < (zn : Int) := by omega
                  have t5 : ((τ : Int)).toNat = τ := by omega
                  have t6 : IntKind.i64.wrap ((τ : Int) + 1) = (τ : Int) + 1 := i64_f _ (by omega) (by omega)
                  rcases HY.out.1 with hnil | ⟨zb, zo, hza, hzc⟩
                  · exfalso
                    have h1 := HY.out.2
                    rw [hnil] at h1
                    simp at h1
                    omega
                  subst hza
                  have h1 := hzc τ (by rw [HY.out.2]; exact ht)
                  obtain ⟨zv, hzv⟩ : ∃ v, v = ys.getD τ 0 := ⟨_, rfl⟩
                  rw [← hzv] at h1
                  have cz_ : w6.cell? ⟨zb, zo + τ, none⟩ = some (.int .i64 zv) := (H6.out.q.bel.cell (p := ⟨zb, zo + τ, none⟩) (World.block_lt_of_cell? w _ h1)).trans h1
                  have ha := and_4095 zv
                  obtain ⟨s, hs⟩ : ∃ s : Nat, (s : Int) = zv % 4096 := ⟨(zv % 4096).toNat, by omega⟩
                  rw [← hs] at ha
                  have hsb : s < 4096 := by omega
                  have t7 : IntKind.i64.wrap (1 + (s : Int)) = 1 + (s : Int) := i64_f _ (by omega) (by omega)
                  clear h1 hzc hzv hs
                  go_wp2
                  go_meet
                  exact ⟨τ + 1, 1 + s, by go_num, by go_num, by omega, by omega, by omega, rfl⟩
                · have t1 : decide ((τ : Int) < (zn : Int)) = false := decide_eq_false (by omega)
                  have t2 : decide (τ < zn) = false := decide_eq_false ht
                  go_wp2
                  go_meet
                  exact ⟨τ, 1, rfl, rfl, hτ, by omega, by omega, rfl⟩
              case rest =>
                obtain ⟨τ2, s, rfl, rfl, hτ2, hs1, hs2, rfl⟩ := hcut
                have HRX6 : Hid (w6.cell? ⟨g, off + i * 5 + 2, none⟩ = some (.int .i64 by_)) := by
                  obtain ⟨_, g', off', ha', _, hcx⟩ := H6.out.ls.li.at i x HXX.out.1
                  simp only [Option.some.injEq, Addr.mk.injEq, and_true] at ha'
                  obtain ⟨rfl, rfl⟩ := ha'
                  show _ = _
                  rw [hcx 2 (by decide), ← HXX.out.2]
                  rfl
                have cb := HRX6.out
                obtain ⟨hf, hhf⟩ : ∃ q : Nat, (q : Int) = by_.tdiv 2 := ⟨(by_.tdiv 2).toNat, by rw [Int.tdiv_eq_ediv_of_nonneg (by omega)]; omega⟩
                have hhf2 : (hf : Int) = by_ / 2 := by rw [hhf, Int.tdiv_eq_ediv_of_nonneg (by omega)]
                have hby2 : 2 ≤ by_ := by rw [← HXX.out.2]; exact (apB_iff.1 HAX.out).2.2
                have hdv : by_.tdiv 2 = (hf : Int) := hhf.symm
                have HDV : Hid (by_ / 2 = (hf : Int)) := hhf2.symm
                have hdw : IntKind.i64.wrap (hf : Int) = (hf : Int) := i64_f _ (by omega) (by omega)
                clear hhf
                go_upto_region 22 with fail
                go_upto_if 99 with fail
                go_cut [15] (fun sx wx => ∃ s' : Nat, sx = .int .i64 (s' : Nat) ∧ 1 ≤ s' ∧ s' ≤ 4096 ∧ (s' : Int) * 2 ≤ by_ ∧ w6 = wx)
                case first =>
                  by_cases hss : hf < s
                  · have t1 : decide ((hf : Int) < (s : Int)) = true := decide_eq_true (by omega)
                    have t2 : decide (hf < s) = true := decide_eq_true hss
                    go_wp2
                    go_meet
                    exact ⟨hf, by rw [HDV.out], by omega, by omega, by omega, rfl⟩
                  · have t1 : decide ((hf : Int) < (s : Int)) = false := decide_eq_false (by omega)
                    have t2 : decide (hf < s) = false := decide_eq_false hss
                    go_wp2
                    go_meet
                    exact ⟨s, rfl, by omega, by omega, by omega, rfl⟩
                case rest =>
                  obtain ⟨s', rfl, hs3, hs4, hs5, rfl⟩ := hcut
                  clear hs1 hs2 hdv hdw hhf2 cb
                  have hp0 : pushE cs (i : Int) (s' : Int) = 0 := HQ.out.2.1.wq.room (fun j hj => HQ.out.1.q.ok.c hj) HCS.out.1 (by rw [HCS.out.2.1]; exact HAX.out) (by rw [HCS.out.2.2.2.1]; exact HN2.out) ⟨by omega, by omega⟩ (by rw [HCS.out.2.1, HXX.out.2]; exact hs5)
                  have QP : Hid _ := H6.out.push (i : Int) (s' : Int) (k : Int)
                  rw [hp0, push_at hp0] at QP
                  have HP0 : Hid (pushE cs (i : Int) (s' : Int) = 0 ∧ (s' : Int) * 2 ≤ by_) := ⟨hp0, hs5⟩
                  clear hp0 hs5
                  go_upto_region 24 with fail
                  go_wp2_with (first | (refine wpList_bof (.tmp 108) (.tmp 109) (.tmp 110) rfl (i : Int) (s' : Int) (k : Int) rfl rfl rfl rfl ?_))
                  refine Calls.mono QP.out ?_
                  rintro ez w7 ⟨rfl, q7, k7⟩
                  clear QP
                  have QD : Hid _ := q7.pushed HQ.out.1.q.ok m c1 (by rw [HQ.out.1.n.1]; exact HL2.out.1) 0 (i : Int) (s' : Int) (k : Int) 0 false HP0.out.1.symm
                  rw [push_at HP0.out.1] at QD
                  clear q7 k7
                  go_wp2_with fail
                  refine Calls.mono (num_any 0 w7) ?_
                  rintro ez w8 ⟨rfl, rfl⟩
                  go_wp2_with fail
                  refine Calls.mono QD.out ?_
                  rintro ez w9 ⟨rfl, ms9, q9, s9, k9⟩
                  have H9 : Hid (QL w P G (cs.set i (joinC (cAt cs i) (s' : Int) (k : Int))) t B (.slice (some ⟨gl, 0, none⟩) m lcap) bv sv ms9 (cs.set i (joinC (cAt cs i) (s' : Int) (k : Int))) (some ⟨g, off, none⟩) l2 w9 ∧ Fs l2 (cs.set i (joinC (cAt cs i) (s' : Int) (k : Int))) t ms9 (k : Int) ∧ Fu (cs.set i (joinC (cAt cs i) (s' : Int) (k : Int))) i) := ⟨q9, HQ.out.2.1.push HCS.out.1 (by rw [HCS.out.2.1]; exact HAX.out) (by rw [HCS.out.2.2.2.1]; exact HN2.out) (by rw [HCS.out.2.1, HXX.out.2]; exact HP0.out.2) s9, HQ.out.2.2.push (Nat.le_refl _) _⟩
                  clear q9 s9 k9 QD
                  go_wp2
                  go_roundw
                  case rel => exact ⟨τ2, _, ms9, rfl, hτ2, H9.out.1, H9.out.2.1, H9.out.2.2⟩
                  case measure =>
                    have hl9 : i < ms9.length := by rw [H9.out.1.n.2, HL2.out.1]; exact hin
                    rw [lnM_is H9.out.1.k (List.getElem?_eq_getElem hl9), lnM_is HQ.out.1.k HCS.out.2.2.1]
                    have h1 := (H9.out.1.ag.at' i _ (List.getElem?_eq_getElem hl9)).1
                    rw [h1, cAt_set_same HCS.out.1]
                    show 2 - ((cAt cs i).L ++ [_]).length < _
                    rw [List.length_append, HCS.out.2.2.2.1, HCS.out.2.2.2.2]
                    have := HN2.out
                    simp
                    omega
      · as_aux_lemma =>
          have p1 : decide ((i : Int) < (m : Int)) = false := decide_eq_false (by omega)
          have p2 : decide (i < m) = false := decide_eq_false hin
          have HFU : Hid (Fu cs cs.length ∧ cs.length = m) := by
            have h1 : cs.length = m := by rw [HJ.out.1.n.1]; exact HL2.out.1
            exact ⟨fun j hj hl ha => HJ.out.2.2 j (by omega) hl ha, h1⟩
          clear hin
          have QP : Hid _ := HJ.out.1.pop
          obtain ⟨ok, hok⟩ : ∃ b, b = anyR cs := ⟨_, rfl⟩
          obtain ⟨pn, hpn⟩ : ∃ b, b = popN cs t := ⟨_, rfl⟩
          obtain ⟨pc, hpc⟩ : ∃ b, b = popC cs t := ⟨_, rfl⟩
          rw [← hok, ← hpn, ← hpc] at QP
          have HPV : Hid (ok = anyR cs ∧ pn = popN cs t ∧ pc = popC cs t) := ⟨hok, hpn, hpc⟩
          clear hok hpn hpc
          go_wp2_with fail
          refine Calls.mono QP.out ?_
          rintro ez w6 ⟨rfl, q6, k6⟩
          clear QP
          cases hb : ok with
          | false =>
            have hany : anyR cs = false := by rw [← HPV.out.1, hb]
            have HM : Hid (∀ x ∈ ms, x.M = []) := fun x hx => by
              obtain ⟨j, hj⟩ := List.getElem?_of_mem hx
              have hjl : j < cs.length := by have h1 := (List.getElem?_eq_some_iff.1 hj).1; rw [HJ.out.1.n.2] at h1; rw [HJ.out.1.n.1]; exact h1
              rw [(HJ.out.1.ag.at' j x hj).1]
              cases ha : apB (cAt cs j).li with
              | false => exact HJ.out.2.1.wq.em j hjl ha
              | true =>
                exfalso
                have hkw := HJ.out.2.1.wq.kw HJ.out.1.li (fun i hi ha e => by have := HFU.out.1 i hi hi ha; rw [e] at this; simp at this)
                have hr := hkw.rdy (i := j) ⟨by rw [li_len HJ.out.1.li]; exact hjl, by rw [← li_at HJ.out.1.li]; exact ha⟩
                unfold anyR at hany
                rw [List.any_eq_false] at hany
                exact hany _ (List.mem_of_getElem? (cAt_get hjl)) hr
            have QN : Hid _ := none_any w.heap.size B lv bv sv ms w6 q6.k HM.out (by rw [HJ.out.1.n.2, HL2.out.1]; exact hm8.2)
            have HB6 : Hid (Below w.heap.size w w6) := q6.q.bel
            clear hany hb q6 k6
            go_wp2_with fail
            refine Calls.mono QN.out ?_
            rintro ez w7 ⟨rfl, rfl⟩
            go_wp2
            go_ret
            exact ⟨rfl, HB6.out⟩
          | true =>
            have hany : anyR cs = true := by rw [← HPV.out.1, hb]
            obtain ⟨j, x, M', hjl, hjr, hjL, hN, hC, hQ⟩ := pop_at HJ.out.1.q.ok hany
            have HX : Hid (j < cs.length ∧ (cAt cs j).L = x :: M' ∧ popC cs t = (j : Int) ∧ popQ cs t = cs.set j (takeC (cAt cs j)) ∧ anyR cs = true) := ⟨hjl, hjL, hC, hQ, hany⟩
            have QD : Hid _ := q6.popped HJ.out.1.q.ok j x M' hjl hjL (65535 * (k : Int)) HJ.out.2.1.sv (by omega)
            have hpn : pn = x.1 := by rw [HPV.out.2.1, hN]
            have hpc : pc = (j : Int) := by rw [HPV.out.2.2, hC]
            obtain ⟨x1, hx1⟩ : ∃ v, x.1 = v := ⟨_, rfl⟩
            rw [hx1] at hpn QD
            subst hpn
            subst hpc
            clear hb hany hjl hjr hjL hN hC hQ hx1 k6
            go_wp2_with fail
            refine Calls.mono QD.out ?_
            rintro ez w7 ⟨rfl, ms7, q7, s7, s71, s72, k7⟩
            have H7 : Hid (QL w P G (popQ cs t) (popT cs t) B lv bv sv ms7 (popQ cs t) a1 l2 w7 ∧ Fs l2 (popQ cs t) (popT cs t) ms7 ((k + 1 : Nat) : Int)) := by
              have q8 := q7
              rw [← HX.out.2.2.2.1] at q8
              refine ⟨q8, ?_⟩
              have h1 := HJ.out.2.1.pop HJ.out.1.q.ok HJ.out.1.li HFU.out.1 HX.out.2.2.2.2 HX.out.2.2.1 HX.out.2.1 HJ.out.1.n.2 q8.n.2 s71 s72 s7
              rw [show ((k + 1 : Nat) : Int) = (k : Int) + 1 by omega]
              exact h1
            clear q6 q7 s7 s71 s72 k7 QD
            go_wp2
            go_roundw
            case rel => exact ⟨τ, k + 1, _, _, ms7, rfl, by go_num, hτ, by omega, H7.out.1, H7.out.2⟩
            case measure => simp [intOf]; omega
end Go.Proofs.Ytclkcpdghpaboaa
