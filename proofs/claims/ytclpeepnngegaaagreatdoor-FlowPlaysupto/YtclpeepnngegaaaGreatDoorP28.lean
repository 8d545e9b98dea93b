/-
  RFd RFe RFf: lemmas of the proof of FlowPlays, and walks through the functions that it calls.
-/
import Derived.Laws.AppendOwnNone
import Derived.Test.YtclpeepnngegaaaGreatDoorP00
import Derived.Test.YtclpeepnngegaaaGreatDoorP27
namespace Go.Proofs.YtclpeepnngegaaaGreatDoor
open Go.RowKit Go.Maps
theorem Tryz.ipGuardX : Tryz.prog.eqGuardType Tryz.prog.depth 24 = false := by kernel_rfl
theorem wpList_neq_ipx {ops : Array Oper} {rest : List Oper} {o : Oper} {a : Act} {w : World} {Q : Exit → Act → World → Prop} (X Y : Operand) (ho : o.op = .binOp .neq 24 X Y 24) (V : Int) (x : Nat → Nat) (U : Int) (y : Nat → Nat) (hx : a.eval X = .agg (ipCells V x)) (hy : a.eval Y = .agg (ipCells U y)) (b : Bool) (hb : (!(V == U && same16 x y)) = b) (hw : Region.wanted o (yielded ops a.tmps) = true)
    (h : wpList Tryz.prog ops Q rest (a.put o.dst (.bool b)) w) : wpList Tryz.prog ops Q (o :: rest) a w := by
  refine wpList_step fun K hK => ?_
  rw [if_pos hw]
  have hrun : (execOp a.eval o).run Tryz.prog w = .ok (.value (.bool b)) w := by
   subst hb
   obtain ⟨dst, op, type, pos, after, guard⟩ := o
   simp only at ho
   subst ho
   simp only [execOp, Sem.run_bind, Sem.run_pure, hx, hy, run_eqGuard_agg w .neq 24 _ _ _ _ Tryz.ipGuardX, Result.andThen_ok, run_neq_struct, eqIPtop]
  unfold Oper.wp
  rw [hrun]
  exact hK _ _ h
theorem ipV_zero' {V : Int} {x : Nat → Nat} {U : Int} {y : Nat → Nat} (h : (V == U && same16 x y) = true) : ipV V x U y = 0 := by
 simp only [Bool.and_eq_true, beq_iff_eq] at h
 obtain ⟨rfl, h⟩ := h
 have e : ciV V V = 0 := by unfold ciV; simp
 unfold ipV
 rw [if_pos e]
 have hb := same_by16 x y h
 unfold cbV
 rw [hb, cmp_self]
 simp
theorem ipV_neg (V : Int) (x : Nat → Nat) (U : Int) (y : Nat → Nat) : decide (ipV V x U y < 0) = lessB V U x y := by
 rw [ipV_less]
 cases lessB V U x y with
 | true => rfl
 | false =>
  rw [if_neg (by decide)]
  cases lessB U V y x <;> rfl
theorem or5_1 {a b c d e : Int} (h : a ≠ 0) : or5 a b c d e = a := by unfold or5; rw [if_pos h]
theorem or5_2 {a b c d e : Int} (h : a = 0) (h2 : b ≠ 0) : or5 a b c d e = b := by unfold or5; rw [if_neg (by omega), if_pos h2]
theorem or5_3 {a b c d e : Int} (h : a = 0) (h2 : b = 0) (h3 : c ≠ 0) : or5 a b c d e = c := by unfold or5; rw [if_neg (by omega), if_neg (by omega), if_pos h3]
theorem or5_4 {a b c d e : Int} (h : a = 0) (h2 : b = 0) (h3 : c = 0) (h4 : d ≠ 0) : or5 a b c d e = d := by unfold or5; rw [if_neg (by omega), if_neg (by omega), if_neg (by omega), if_pos h4]
theorem or5_5 {a b c d e : Int} (h : a = 0) (h2 : b = 0) (h3 : c = 0) (h4 : d = 0) : or5 a b c d e = e := by unfold or5; rw [if_neg (by omega), if_neg (by omega), if_neg (by omega), if_neg (by omega)]
theorem ciV_ne {x y : Int} (h : x ≠ y) : ciV x y ≠ 0 := fun e => h (ciV_zero e)
theorem ciV_eq {x y : Int} (h : x = y) : ciV x y = 0 := by unfold ciV; rw [h]; simp
theorem ciV_neg (x y : Int) : decide (ciV x y < 0) = decide (x < y) := by
 unfold ciV
 by_cases h : x < y
 · rw [if_pos h]; simp [h]
 · rw [if_neg h]
   by_cases h2 : y < x
   · rw [if_pos h2]; simp [h]
   · rw [if_neg h2]; simp [h]
theorem ah_ref {a b : TU} (ha : a.Wf) (hb : b.Wf) : decide (ordT a b < 0) = if (a.pr != b.pr) = true then decide (a.pr < b.pr) else if (!(a.sV == b.sV && same16 a.s b.s)) = true then lessB a.sV b.sV a.s b.s else if (a.sp != b.sp) = true then decide (a.sp < b.sp) else if (!(a.dV == b.dV && same16 a.d b.d)) = true then lessB a.dV b.dV a.d b.d else decide (a.dp < b.dp) := by
 unfold ordT
 cases h1 : a.pr != b.pr with
 | true =>
  rw [if_pos rfl, or5_1 (show c1V a b ≠ 0 from ciV_ne (by simpa using h1))]
  exact ciV_neg _ _
 | false =>
  have z1 : c1V a b = 0 := ciV_eq (by simpa using h1)
  rw [if_neg (by decide)]
  cases h2 : (!(a.sV == b.sV && same16 a.s b.s)) with
  | true =>
   have n2 : c2V a b ≠ 0 := fun e => by
    obtain ⟨e1, e2⟩ := ipV_zero ha.s hb.s e
    rw [e1, e2] at h2
    simp at h2
   rw [if_pos rfl, or5_2 z1 n2]
   exact ipV_neg _ _ _ _
  | false =>
   have z2 : c2V a b = 0 := ipV_zero' (by simpa using h2)
   rw [if_neg (by decide)]
   cases h3 : a.sp != b.sp with
   | true =>
    rw [if_pos rfl, or5_3 z1 z2 (show c3V a b ≠ 0 from ciV_ne (by simpa using h3))]
    exact ciV_neg _ _
   | false =>
    have z3 : c3V a b = 0 := ciV_eq (by simpa using h3)
    rw [if_neg (by decide)]
    cases h4 : (!(a.dV == b.dV && same16 a.d b.d)) with
    | true =>
     have n4 : c4V a b ≠ 0 := fun e => by
      obtain ⟨e1, e2⟩ := ipV_zero ha.d hb.d e
      rw [e1, e2] at h4
      simp at h4
     rw [if_pos rfl, or5_4 z1 z2 z3 n4]
     exact ipV_neg _ _ _ _
    | false =>
     have z4 : c4V a b = 0 := ipV_zero' (by simpa using h4)
     rw [if_neg (by decide), or5_5 z1 z2 z3 z4]
     exact ciV_neg _ _
set_option maxHeartbeats 1600000 in
set_option maxRecDepth 100000 in
theorem aheadR_any (a b : TU) (w : World) (ha : a.Wf) (hb : b.Wf) : Calls Tryz.prog 56 #[.agg (tuC a), .agg (tuC b)] w fun r w' => r = .returned (.bool (decide (ordT a b < 0))) ∧ Below w.heap.size w w' := by
 have hR := ah_ref ha hb
 have HW : Hid (a.Wf ∧ b.Wf) := ⟨ha, hb⟩
 clear ha hb
 obtain ⟨Wb, B, HSZX, HOX, HLX, HWX, hb⟩ := zBx w (tuC a) 38
 have HBX : Hid (TupAt Wb B a) := hb
 obtain ⟨CX, hC⟩ : ∃ C, C = tuC a := ⟨_, rfl⟩
 rw [← hC] at HWX ⊢
 clear hb hC
 obtain ⟨Wd, D, HSZZ, HOZ, HLZ, HWZ, hb⟩ := zBx Wb (tuC b) 38
 have HBZ : Hid (TupAt Wd D b) := hb
 obtain ⟨CZ, hC⟩ : ∃ C, C = tuC b := ⟨_, rfl⟩
 rw [← hC] at HWZ ⊢
 clear hb hC
 have H0 : Hid (TupAt Wd B a ∧ TupAt Wd D b ∧ Below w.heap.size w Wd) := ⟨HBX.out.below HLZ.out, HBZ.out, bthen HLX.out HLZ.out⟩
 obtain ⟨r, hr⟩ : ∃ r, decide (ordT a b < 0) = r := ⟨_, rfl⟩
 rw [hr] at hR ⊢
 clear hr
 obtain ⟨p, hp⟩ : ∃ p, a.pr = p := ⟨_, rfl⟩
 obtain ⟨p', hp'⟩ : ∃ p, b.pr = p := ⟨_, rfl⟩
 obtain ⟨s, hs⟩ : ∃ p, a.sp = p := ⟨_, rfl⟩
 obtain ⟨s', hs'⟩ : ∃ p, b.sp = p := ⟨_, rfl⟩
 obtain ⟨d, hd⟩ : ∃ p, a.dp = p := ⟨_, rfl⟩
 obtain ⟨d', hd'⟩ : ∃ p, b.dp = p := ⟨_, rfl⟩
 have x0_ : Wd.cell? ⟨B, 0, none⟩ = some (.int .i64 p) := by rw [← hp]; exact H0.out.1.c0
 have y0_ : Wd.cell? ⟨D, 0, none⟩ = some (.int .i64 p') := by rw [← hp']; exact H0.out.2.1.c0
 have x35_ : Wd.cell? ⟨B, 35, none⟩ = some (.int .i64 s) := by rw [← hs]; exact H0.out.1.c35
 have y35_ : Wd.cell? ⟨D, 35, none⟩ = some (.int .i64 s') := by rw [← hs']; exact H0.out.2.1.c35
 have x36_ : Wd.cell? ⟨B, 36, none⟩ = some (.int .i64 d) := by rw [← hd]; exact H0.out.1.c36
 have y36_ : Wd.cell? ⟨D, 36, none⟩ = some (.int .i64 d') := by rw [← hd']; exact H0.out.2.1.c36
 rw [hp, hp', hs, hs', hd, hd'] at hR
 obtain ⟨n1, h1⟩ : ∃ n, (p != p') = n := ⟨_, rfl⟩
 obtain ⟨n2, h2⟩ : ∃ n, (!(a.sV == b.sV && same16 a.s b.s)) = n := ⟨_, rfl⟩
 obtain ⟨n3, h3⟩ : ∃ n, (s != s') = n := ⟨_, rfl⟩
 obtain ⟨n4, h4⟩ : ∃ n, (!(a.dV == b.dV && same16 a.d b.d)) = n := ⟨_, rfl⟩
 obtain ⟨l1, g1⟩ : ∃ n, decide (p < p') = n := ⟨_, rfl⟩
 obtain ⟨l3, g3⟩ : ∃ n, decide (s < s') = n := ⟨_, rfl⟩
 obtain ⟨l5, g5⟩ : ∃ n, decide (d < d') = n := ⟨_, rfl⟩
 obtain ⟨l2, g2⟩ : ∃ n, lessB a.sV b.sV a.s b.s = n := ⟨_, rfl⟩
 obtain ⟨l4, g4⟩ : ∃ n, lessB a.dV b.dV a.d b.d = n := ⟨_, rfl⟩
 rw [h1, h2, h3, h4, g1, g3, g5, g2, g4] at hR
 have HN : Hid ((!(a.sV == b.sV && same16 a.s b.s)) = n2 ∧ (!(a.dV == b.dV && same16 a.d b.d)) = n4 ∧ lessB a.sV b.sV a.s b.s = l2 ∧ lessB a.dV b.dV a.d b.d = l4) := ⟨h2, h4, g2, g4⟩
 have HR : Hid (r = if n1 = true then l1 else if n2 = true then l2 else if n3 = true then l3 else if n4 = true then l4 else l5) := hR
 clear hR h2 h4 g2 g4 hp hp' hs hs' hd hd'
 go_enter Tryz.func56, Tryz.ntmps56
 go_upto_region 1 with (first | (rw [HOX.out, HWX.out]) | (rw [HOZ.out, HWZ.out]))
 cases n1 with
 | true =>
  go_wp2
  go_ret
  exact ⟨by have h := HR.out; subst h; rfl, H0.out.2.2⟩
 | false =>
  cases n2 with
  | true =>
   go_wp2_with (first | (refine wpList_mid_ipr (.tmp 17) rfl B 1 a.sV a.s rfl H0.out.1.src rfl ?_) | (refine wpList_mid_ipr (.tmp 19) rfl D 1 b.sV b.s rfl H0.out.2.1.src rfl ?_) | (refine wpList_neq_ipx (.tmp 18) (.tmp 20) rfl a.sV a.s b.sV b.s rfl rfl true HN.out.1 rfl ?_) | (refine wpList_mid_ipr (.tmp 22) rfl B 1 a.sV a.s rfl H0.out.1.src rfl ?_) | (refine wpList_mid_ipr (.tmp 24) rfl D 1 b.sV b.s rfl H0.out.2.1.src rfl ?_))
   refine Calls.mono (lessR_any a.sV a.s b.sV b.s Wd HW.out.1.s HW.out.2.s) ?_
   rintro e5 w5 ⟨rfl, b5⟩
   have H5 : Hid (Below w.heap.size w w5) := bthen H0.out.2.2 b5
   clear b5
   go_wp2
   go_ret
   exact ⟨by have e : lessB a.sV b.sV a.s b.s = r := by rw [HN.out.2.2.1]; exact HR.out.symm
             show Ending.returned (.bool (lessB a.sV b.sV a.s b.s)) = _
             rw [e], H5.out⟩
  | false =>
   cases n3 with
   | true =>
    go_wp2_with (first | (refine wpList_mid_ipr (.tmp 17) rfl B 1 a.sV a.s rfl H0.out.1.src rfl ?_) | (refine wpList_mid_ipr (.tmp 19) rfl D 1 b.sV b.s rfl H0.out.2.1.src rfl ?_) | (refine wpList_neq_ipx (.tmp 18) (.tmp 20) rfl a.sV a.s b.sV b.s rfl rfl false HN.out.1 rfl ?_))
    go_ret
    exact ⟨by have h := HR.out; subst h; rfl, H0.out.2.2⟩
   | false =>
    cases n4 with
    | true =>
     go_wp2_with (first | (refine wpList_mid_ipr (.tmp 17) rfl B 1 a.sV a.s rfl H0.out.1.src rfl ?_) | (refine wpList_mid_ipr (.tmp 19) rfl D 1 b.sV b.s rfl H0.out.2.1.src rfl ?_) | (refine wpList_neq_ipx (.tmp 18) (.tmp 20) rfl a.sV a.s b.sV b.s rfl rfl false HN.out.1 rfl ?_) | (refine wpList_mid_ipr (.tmp 39) rfl B 18 a.dV a.d rfl H0.out.1.dst rfl ?_) | (refine wpList_mid_ipr (.tmp 41) rfl D 18 b.dV b.d rfl H0.out.2.1.dst rfl ?_) | (refine wpList_neq_ipx (.tmp 40) (.tmp 42) rfl a.dV a.d b.dV b.d rfl rfl true HN.out.2.1 rfl ?_) | (refine wpList_mid_ipr (.tmp 44) rfl B 18 a.dV a.d rfl H0.out.1.dst rfl ?_) | (refine wpList_mid_ipr (.tmp 46) rfl D 18 b.dV b.d rfl H0.out.2.1.dst rfl ?_))
     refine Calls.mono (lessR_any a.dV a.d b.dV b.d Wd HW.out.1.d HW.out.2.d) ?_
     rintro e5 w5 ⟨rfl, b5⟩
     have H5 : Hid (Below w.heap.size w w5) := bthen H0.out.2.2 b5
     clear b5
     go_wp2
     go_ret
     exact ⟨by have e : lessB a.dV b.dV a.d b.d = r := by rw [HN.out.2.2.2]; exact HR.out.symm
               show Ending.returned (.bool (lessB a.dV b.dV a.d b.d)) = _
               rw [e], H5.out⟩
    | false =>
     go_wp2_with (first | (refine wpList_mid_ipr (.tmp 17) rfl B 1 a.sV a.s rfl H0.out.1.src rfl ?_) | (refine wpList_mid_ipr (.tmp 19) rfl D 1 b.sV b.s rfl H0.out.2.1.src rfl ?_) | (refine wpList_neq_ipx (.tmp 18) (.tmp 20) rfl a.sV a.s b.sV b.s rfl rfl false HN.out.1 rfl ?_) | (refine wpList_mid_ipr (.tmp 39) rfl B 18 a.dV a.d rfl H0.out.1.dst rfl ?_) | (refine wpList_mid_ipr (.tmp 41) rfl D 18 b.dV b.d rfl H0.out.2.1.dst rfl ?_) | (refine wpList_neq_ipx (.tmp 40) (.tmp 42) rfl a.dV a.d b.dV b.d rfl rfl false HN.out.2.1 rfl ?_))
     go_ret
     exact ⟨by have h := HR.out; subst h; rfl, H0.out.2.2⟩
end Go.Proofs.YtclpeepnngegaaaGreatDoor
namespace Go.Proofs.YtclpeepnngegaaaGreatDoor
open Go.RowKit Go.Maps
theorem flrow_tup {w : World} {g o : Nat} {f : FN} (h : w.rangeAt g o (flC f).toList) : w.rangeAt g o (tuC f.x).toList := fun j v hj => h j v (by
 have e : (flC f).toList = (tuC f.x).toList ++ [.int .i64 f.po, .int .i64 f.st, .int .i64 f.le] := rfl
 rw [e, List.getElem?_append_left (List.getElem?_eq_some_iff.1 hj).1]
 exact hj)
theorem rng_drew {w A : World} {g o : Nat} {l : List Value} (h : A = w.drew) (r : w.rangeAt g o l) : A.rangeAt g o l := by
 subst h
 exact r
theorem fl_base {w : World} {base : Nat} {v : Value} {L : List FN} (h : FL w base v L) {q : Nat} (hq : v.ownBlock = some q) : base ≤ q := by
 rcases h.2 with ⟨rfl, _⟩ | ⟨g, cap, cur, rfl, hb, _⟩
 · simp [Value.ownBlock] at hq
 · simp only [Value.ownBlock, Option.some.injEq] at hq
   omega
theorem fl_lt {w : World} {base : Nat} {v : Value} {L : List FN} (h : FL w base v L) {q : Nat} (hq : v.ownBlock = some q) : q < w.heap.size := by
 rcases h.2 with ⟨rfl, _⟩ | ⟨g, cap, cur, rfl, hb, hgg, _⟩
 · simp [Value.ownBlock] at hq
 · simp only [Value.ownBlock, Option.some.injEq] at hq
   subst hq
   exact (Array.getElem?_eq_some_iff.1 hgg).1
theorem fl_nt {w : World} {base : Nat} {v : Value} {L : List FN} (h : FL w base v L) {q : Nat} {x : TU} (hq : v.ownBlock = some q) (hs : TupAt w q x) : False := by
 rcases h.2 with ⟨rfl, _⟩ | ⟨g, cap, cur, rfl, hb, hgg, _⟩
 · simp [Value.ownBlock] at hq
 · simp only [Value.ownBlock, Option.some.injEq] at hq
   subst hq
   unfold TupAt at hs
   rw [hs] at hgg
   simp only [Option.some.injEq, Obj.cells.injEq] at hgg
   exact absurd hgg.2.1 (by decide)
theorem wo_next {L : List FN} {x : TU} {i : Nat} {f : FN} (h : L[i]? = some f) : wo (L.take (i + 1)) x = wo (L.take i) x ++ (if eqP f.x x then [] else [f]) := by
 unfold wo
 rw [List.take_add_one, h, List.filter_append]
 congr 1
 simp only [Option.toList_some, List.filter_cons, List.filter_nil]
 cases eqP f.x x <;> rfl
theorem wo_len (L : List FN) (x : TU) : (wo L x).length ≤ L.length := List.length_filter_le _ _
set_option maxHeartbeats 1600000 in
set_option maxRecDepth 100000 in
theorem withoutR_any (base : Nat) (a : Option Addr) (n m : Nat) (L : List FN) (x : TU) (w : World) (h : FL w base (.slice a n m) L) (hn : L.length = n) (hL : n ≤ 4200) : Calls Tryz.prog 54 #[.slice a n m, .agg (tuC x)] w fun r w' => ∃ a' m', r = .returned (.slice a' (wo L x).length m') ∧ FL w' w.heap.size (.slice a' (wo L x).length m') (wo L x) ∧ Below w.heap.size w w' := by
 have HH : Hid (FL w base (.slice a n m) L ∧ L.length = n) := ⟨h, hn⟩
 clear h hn
 obtain ⟨W, B, HSZX, HOX, HLX, HWX, hb⟩ := zBx w (tuC x) 38
 have HBX : Hid (TupAt W B x) := hb
 obtain ⟨CX, hC⟩ : ∃ C, C = tuC x := ⟨_, rfl⟩
 rw [← hC] at HWX ⊢
 clear hb hC
 have H0 : Hid (TupAt W B x ∧ FL W w.heap.size (.slice none 0 0) [] ∧ FL W base (.slice a n m) L ∧ Below w.heap.size w W) := ⟨HBX.out, FL.nil _ _, HH.out.1.below HLX.out, HLX.out⟩
 go_enter Tryz.func54, Tryz.ntmps54
 go_upto_region 2 with (first | (rw [HOX.out, HWX.out]))
 go_wp2_with fail
 go_loopw [5, 6] (fun ov ix wr => ∃ i : Nat, ix = .int .i64 (i : Nat) ∧ i ≤ n ∧ Hid (TupAt wr B x ∧ FL wr w.heap.size ov (wo (L.take i) x) ∧ FL wr base (.slice a n m) L ∧ Below w.heap.size w wr)) (fun _ ix _ => n - (intOf ix).toNat)
 case atStart => exact ⟨0, rfl, Nat.zero_le _, H0.out⟩
 case round =>
  clear H0
  obtain ⟨i, rfl, hi, HI⟩ := hrel
  obtain ⟨lv, hlv⟩ : ∃ v, v = u5 := ⟨_, rfl⟩
  rw [← hlv] at HI ⊢
  clear hlv
  by_cases hin : i < n
  · have p1 : decide ((i : Int) < (n : Int)) = true := decide_eq_true (by omega)
    have p2 : decide (i < n) = true := decide_eq_true hin
    have i0 : (0 : Int) ≤ (i : Int) := by omega
    have i1 : (i : Int) < (n : Int) := by omega
    have i2 : ((i : Int)).toNat = i := by omega
    have wi : IntKind.i64.wrap ((i : Int) + 1) = (i : Int) + 1 := i64_k _ (by omega) (by omega)
    obtain ⟨f, hf⟩ : ∃ f, L[i]? = some f := ⟨_, List.getElem?_eq_getElem (by rw [HH.out.2]; exact hin)⟩
    obtain ⟨g, c', hv, _, _, hr⟩ := HI.out.2.2.1.at i f hf
    simp only [Value.slice.injEq] at hv
    obtain ⟨rfl, x1, x2⟩ := hv
    clear x1 x2
    have HR : Hid (wr.rangeAt g (i * 40) (flC f).toList) := hr
    have HIN : Hid (i < n ∧ L[i]? = some f) := ⟨hin, hf⟩
    obtain ⟨eq, heq⟩ : ∃ b, eqP f.x x = b := ⟨_, rfl⟩
    have HEQ : Hid (eqP f.x x = eq) := heq
    have hwl : (wo (L.take i) x).length ≤ 4200 := Nat.le_trans (wo_len _ _) (by rw [List.length_take]; omega)
    have HWL : Hid ((wo (L.take i) x).length ≤ 4200) := hwl
    clear hf hr hin hi heq hwl
    go_upto_region 5 with fail
    clear p1 p2
    cases eq with
    | true =>
     refine MixH.start (fun A => A.rangeAt g (i * 40) (flC f).toList ∧ TupAt A B x) (by kernel_rfl) ?_
     obtain ⟨wA, hwA⟩ : ∃ wA, wA = wr.drew := ⟨_, rfl⟩
     have bdr := zDr hwA
     have HA : Hid (TupAt wA B x ∧ FL wA w.heap.size lv (wo (L.take i) x) ∧ FL wA base (.slice (some ⟨g, 0, none⟩) n m) L ∧ Below w.heap.size w wA ∧ wA.rangeAt g (i * 40) (flC f).toList) := ⟨HI.out.1.below bdr, HI.out.2.1.below bdr, HI.out.2.2.1.below bdr, bthen HI.out.2.2.2 bdr, rng_drew hwA HR.out⟩
     have hS : wA.rangeAt g (i * 40) (flC f).toList ∧ TupAt wA B x := ⟨HA.out.2.2.2.2, HA.out.1⟩
     rw [← hwA]
     clear hwA bdr
     refine MixH.tks [true, true, true, true] 3 hS (fun K hK => ?_)
     simp only [Mix.pick]
     repeat (go_big_quiet_step (fail))
     refine wpQuiet_nil (hK _ ?_)
     clear hK K
     refine MixH.tk 2 4 rfl (.agg (tuC f.x)) (yields_tup (.tmp 16) rfl g (i * 40) f.x rfl rfl (fun A hA => flrow_tup hA.1)) hS (fun a' ha => ?_)
     simp only [zP1, zP2, zP3, zP4] at ha
     subst ha
     refine MixH.tk 1 5 rfl (.agg (tuC x)) (yields_tup (.tmp 3) rfl B 0 x rfl rfl (fun A hA => hA.2.all)) hS (fun a' ha => ?_)
     simp only [zP1, zP2, zP3, zP4] at ha
     subst ha
     refine MixH.tk 0 6 rfl (.bool false) (yields_neq_tu (.tmp 17) (.tmp 18) rfl f.x x rfl rfl false (by rw [HEQ.out]; rfl) rfl) hS (fun a' ha => ?_)
     simp only [zP1, zP2, zP3, zP4] at ha
     subst ha
     refine MixH.done (by kernel_rfl) ?_
     clear hS
     have HZ : Hid (TupAt wA B x ∧ FL wA w.heap.size lv (wo (L.take (i + 1)) x) ∧ FL wA base (.slice (some ⟨g, 0, none⟩) n m) L ∧ Below w.heap.size w wA) := ⟨HA.out.1, by rw [wo_next HIN.out.2, HEQ.out, if_pos rfl, List.append_nil]; exact HA.out.2.1, HA.out.2.2.1, HA.out.2.2.2.1⟩
     go_wp2_with fail
     go_roundw
     case rel => exact ⟨i + 1, by go_num, by have := HIN.out.1; omega, HZ.out⟩
     case measure => have := HIN.out.1; simp [intOf]; omega
    | false =>
     refine MixH.start (fun A => A.rangeAt g (i * 40) (flC f).toList ∧ TupAt A B x) (by kernel_rfl) ?_
     obtain ⟨wA, hwA⟩ : ∃ wA, wA = wr.drew := ⟨_, rfl⟩
     have bdr := zDr hwA
     have HA : Hid (TupAt wA B x ∧ FL wA w.heap.size lv (wo (L.take i) x) ∧ FL wA base (.slice (some ⟨g, 0, none⟩) n m) L ∧ Below w.heap.size w wA ∧ wA.rangeAt g (i * 40) (flC f).toList) := ⟨HI.out.1.below bdr, HI.out.2.1.below bdr, HI.out.2.2.1.below bdr, bthen HI.out.2.2.2 bdr, rng_drew hwA HR.out⟩
     have hS : wA.rangeAt g (i * 40) (flC f).toList ∧ TupAt wA B x := ⟨HA.out.2.2.2.2, HA.out.1⟩
     rw [← hwA]
     clear hwA bdr
     refine MixH.tks [true, true, true, true] 3 hS (fun K hK => ?_)
     simp only [Mix.pick]
     repeat (go_big_quiet_step (fail))
     refine wpQuiet_nil (hK _ ?_)
     clear hK K
     refine MixH.tk 2 4 rfl (.agg (tuC f.x)) (yields_tup (.tmp 16) rfl g (i * 40) f.x rfl rfl (fun A hA => flrow_tup hA.1)) hS (fun a' ha => ?_)
     simp only [zP1, zP2, zP3, zP4] at ha
     subst ha
     refine MixH.tk 1 5 rfl (.agg (tuC x)) (yields_tup (.tmp 3) rfl B 0 x rfl rfl (fun A hA => hA.2.all)) hS (fun a' ha => ?_)
     simp only [zP1, zP2, zP3, zP4] at ha
     subst ha
     refine MixH.tk 0 6 rfl (.bool true) (yields_neq_tu (.tmp 17) (.tmp 18) rfl f.x x rfl rfl true (by rw [HEQ.out]; rfl) rfl) hS (fun a' ha => ?_)
     simp only [zP1, zP2, zP3, zP4] at ha
     subst ha
     refine MixH.done (by kernel_rfl) ?_
     clear hS
     obtain ⟨wC, hwC⟩ : ∃ W_, W_ = wA.alloc (.cells (flC f) 72) := ⟨_, rfl⟩
     have bC : Below wA.heap.size wA wC := by rw [hwC]; exact (Below.refl _ _).alloc (Nat.le_refl _) _
     obtain ⟨OG, hOG⟩ : ∃ O, O = wA.heap.size := ⟨_, rfl⟩
     have HNG : Hid (FloAt wC OG f) := by show FloAt wC OG f; rw [hwC, hOG]; exact flo_new wA f
     have HEG : Hid (wA.alloc (.cells (flC f) 72) = wC) := hwC.symm
     have HOG : Hid (wA.heap.size = OG) := hOG.symm
     have HC : Hid (TupAt wC B x ∧ FL wC w.heap.size lv (wo (L.take i) x) ∧ FL wC base (.slice (some ⟨g, 0, none⟩) n m) L ∧ Below w.heap.size w wC) := ⟨HA.out.1.below bC, HA.out.2.1.below bC, HA.out.2.2.1.below bC, bthen HA.out.2.2.2.1 bC⟩
     clear hwC hOG bC
     go_wp2_with (first | (refine wpList_mid_flo (.tmp 23) rfl g (i * 40) f rfl HA.out.2.2.2.2 rfl ?_) | (refine wpList_bs1f (.tmp 24) rfl f rfl rfl ?_; rw [HEG.out, HOG.out]) | (at_builtin; refine wpList_app1f rfl (.tmp 20) (.tmp 25) rfl w.heap.size lv (wo (L.take i) x) rfl HC.out.2.1 OG f rfl HNG.out (by have := HWL.out; omega) HC.out.2.2.2.size ?_))
     intro v2 w10 gl gb _
     have b10 := (Ch.ofGrown gb).below (fun q hq => fl_base HC.out.2.1 hq) HC.out.2.2.2.size
     have HZ : Hid (TupAt w10 B x ∧ FL w10 w.heap.size v2 (wo (L.take (i + 1)) x) ∧ FL w10 base (.slice (some ⟨g, 0, none⟩) n m) L ∧ Below w.heap.size w w10) := by
      have kk := Ch.ofGrown gb
      refine ⟨HC.out.1.ch kk (fun q => fl_nt HC.out.2.1 q HC.out.1), by rw [wo_next HIN.out.2, HEQ.out, if_neg (by decide)]; exact gl, HC.out.2.2.1.ch kk (fun q hq hs => by have h1 := fl_lt HH.out.1 hq; have h2 := fl_base HC.out.2.1 hs; omega), HC.out.2.2.2.trans b10⟩
     clear gl gb
     go_wp2_with fail
     go_roundw
     case rel => exact ⟨i + 1, by go_num, by have := HIN.out.1; omega, HZ.out⟩
     case measure => have := HIN.out.1; simp [intOf]; omega
  · have p1 : decide ((i : Int) < (n : Int)) = false := decide_eq_false (by omega)
    have p2 : decide (i < n) = false := decide_eq_false hin
    have HW : Hid (FL wr w.heap.size lv (wo L x) ∧ Below w.heap.size w wr) := by
     have h1 := HI.out.2.1
     rw [List.take_of_length_le (by rw [HH.out.2]; omega)] at h1
     exact ⟨h1, HI.out.2.2.2⟩
    clear hin hi
    go_wp2_with fail
    go_ret
    obtain ⟨va, vc, hv⟩ := HW.out.1.form
    subst hv
    exact ⟨va, vc, rfl, HW.out.1, HW.out.2⟩
end Go.Proofs.YtclpeepnngegaaaGreatDoor
namespace Go.Proofs.YtclpeepnngegaaaGreatDoor
open Go.RowKit Go.Maps
theorem tw_stop {α : Type} (p : α → Bool) : ∀ (L : List α) (i : Nat), (∀ g ∈ L.take i, p g = true) → (i = L.length ∨ ∃ g, L[i]? = some g ∧ p g = false) → L.takeWhile p = L.take i ∧ L.dropWhile p = L.drop i
 | [], i, _, _ => by simp
 | a :: L, 0, _, h => by
  rcases h with h | ⟨g, hg, hp⟩
  · simp at h
  · simp only [List.getElem?_cons_zero, Option.some.injEq] at hg
    subst hg
    simp [hp]
 | a :: L, i + 1, ha, h => by
  have hpa : p a = true := ha a (by simp)
  have ih := tw_stop p L i (fun g hg => ha g (by simp [hg])) (by
   rcases h with h | ⟨g, hg, hp⟩
   · left; simpa using h
   · right; exact ⟨g, by simpa using hg, hp⟩)
  simp [hpa, ih.1, ih.2]
theorem fcs_take_drop (L : List FN) (k : Nat) : fcs L = fcs (L.take k) ++ fcs (L.drop k) := by rw [← fcs_app, List.take_append_drop]
def WinF (w : World) (a : Option Addr) (n c : Nat) (L : List FN) : Prop := L.length = n ∧ ((a = none ∧ n = 0 ∧ c = 0) ∨ ∃ g o, a = some ⟨g, o, none⟩ ∧ ∀ j u, (fcs L)[j]? = some u → w.cell? ⟨g, o + j, none⟩ = some u)
theorem FL.lo {w : World} {base : Nat} {a : Option Addr} {n c k : Nat} {L : List FN} (h : FL w base (.slice a n c) L) (hk : k ≤ L.length) : ∃ a', sliced a 0 k c 40 = .slice a' k c ∧ WinF w a' k c (L.take k) := by
 have hl : (L.take k).length = k := by rw [List.length_take]; omega
 rcases h.2 with ⟨hv, h0⟩ | ⟨g, cap, cur, hv, hb, hg, hnc, hcm, hcs, ht⟩
 · simp only [Value.slice.injEq] at hv
   obtain ⟨rfl, rfl, rfl⟩ := hv
   have hk0 : k = 0 := by omega
   subst hk0
   exact ⟨none, rfl, hl, .inl ⟨rfl, rfl, rfl⟩⟩
 · simp only [Value.slice.injEq] at hv
   obtain ⟨rfl, rfl, rfl⟩ := hv
   refine ⟨some ⟨g, 0, none⟩, ?_, hl, .inr ⟨g, 0, rfl, fun j u hj => ?_⟩⟩
   · unfold sliced
     by_cases e : c = 0
     · rw [if_pos e]; simp
     · rw [if_neg e]; simp [Addr.add]
   · have hc := World.ownsRow.cells (show w.ownsRow base 72 40 _ _ (fcs L) from h) rfl j u (by
       rw [fcs_take_drop L k, List.getElem?_append_left (List.getElem?_eq_some_iff.1 hj).1]
       exact hj)
     rw [Addr.add_lit] at hc
     exact hc
theorem FL.hi {w : World} {base : Nat} {a : Option Addr} {n c k : Nat} {L : List FN} (h : FL w base (.slice a n c) L) (hn : L.length = n) (hk : k ≤ n) : ∃ a', sliced a k n c 40 = .slice a' (n - k) (c - k) ∧ WinF w a' (n - k) (c - k) (L.drop k) := by
 have hl : (L.drop k).length = n - k := by rw [List.length_drop, hn]
 rcases h.2 with ⟨hv, h0⟩ | ⟨g, cap, cur, hv, hb, hg, hnc, hcm, hcs, ht⟩
 · simp only [Value.slice.injEq] at hv
   obtain ⟨rfl, rfl, rfl⟩ := hv
   have hk0 : k = 0 := by omega
   subst hk0
   exact ⟨none, rfl, hl, .inl ⟨rfl, rfl, rfl⟩⟩
 · simp only [Value.slice.injEq] at hv
   obtain ⟨rfl, hvn, rfl⟩ := hv
   have hcell : ∀ j u, (fcs (L.drop k))[j]? = some u → w.cell? ⟨g, k * 40 + j, none⟩ = some u := fun j u hj => by
    have l1 : (fcs (L.take k)).length = k * 40 := by rw [fcs_len, List.length_take, Nat.min_eq_left (by omega)]
    have hc := World.ownsRow.cells (show w.ownsRow base 72 40 _ _ (fcs L) from h) rfl (k * 40 + j) u (by
     rw [fcs_take_drop L k, List.getElem?_append_right (by omega), l1, Nat.add_sub_cancel_left]
     exact hj)
    rw [Addr.add_lit, Nat.zero_add] at hc
    exact hc
   by_cases e : c = k
   · have hz : L.drop k = [] := List.drop_eq_nil_of_le (by omega)
     refine ⟨some ⟨g, 0, none⟩, by unfold sliced; rw [if_pos e], hl, .inr ⟨g, 0, rfl, fun j u hj => ?_⟩⟩
     rw [hz] at hj
     simp [fcs] at hj
   · refine ⟨some ⟨g, k * 40, none⟩, by unfold sliced; rw [if_neg e, Option.map_some, Addr.add_lit, Nat.zero_add], hl, .inr ⟨g, k * 40, rfl, hcell⟩⟩
set_option maxRecDepth 100000 in
theorem wpList_slH {ops : Array Oper} {rest : List Oper} {o : Oper} {a : Act} {w : World} {Q : Exit → Act → World → Prop} (x h : Operand) (ho : o.op = .slice 34 x none (some h) none) (hg : o.guard = none) (ad : Option Addr) (n c k : Nat) (H : Int) (v : Value) (hv : sliced ad 0 k c 40 = v) (hx : a.eval x = .slice ad n c) (hh : a.eval h = .int .i64 H) (hH : H = (k : Nat)) (hk : k ≤ c)
    (hq : wpList Tryz.prog ops Q rest (a.put o.dst v) w) : wpList Tryz.prog ops Q (o :: rest) a w := by
  subst hH
  refine wpList_plain hg fun Kk hKk => ?_
  obtain ⟨dst, op, type, pos, after, guard⟩ := o
  simp only at ho
  subst ho
  have hs : (Tryz.prog.info? 72).map (·.size) = some 40 := Tryz.size_flo
  have hrun : (Instr.slice 34 (.slice ad n c) none (some (.int .i64 (k : Int))) none).run Tryz.prog w = .ok v w := by
   rw [run_slice_h w 34 ad n c Tryz.underlying34 .i64 (k : Int) (by omega) (by omega), ← hv]
   kernel_rfl
  unfold Oper.wp
  simp only [execOp, Sem.run_bind, hx, hh, Option.map_some, Option.map_none, run_sliceAt_slice w 34 _ _ _ _ Tryz.underlying34, hrun, Result.andThen_ok]
  exact hKk _ _ hq
set_option maxRecDepth 100000 in
theorem wpList_slL {ops : Array Oper} {rest : List Oper} {o : Oper} {a : Act} {w : World} {Q : Exit → Act → World → Prop} (x l : Operand) (ho : o.op = .slice 34 x (some l) none none) (hg : o.guard = none) (ad : Option Addr) (n c k : Nat) (H : Int) (v : Value) (hv : sliced ad k n c 40 = v) (hx : a.eval x = .slice ad n c) (hh : a.eval l = .int .i64 H) (hH : H = (k : Nat)) (hk : k ≤ n)
    (hq : wpList Tryz.prog ops Q rest (a.put o.dst v) w) : wpList Tryz.prog ops Q (o :: rest) a w := by
  subst hH
  refine wpList_plain hg fun Kk hKk => ?_
  obtain ⟨dst, op, type, pos, after, guard⟩ := o
  simp only at ho
  subst ho
  have hs : (Tryz.prog.info? 72).map (·.size) = some 40 := Tryz.size_flo
  have hrun : (Instr.slice 34 (.slice ad n c) (some (.int .i64 (k : Int))) none none).run Tryz.prog w = .ok v w := by
   rw [run_slice_l w 34 ad n c Tryz.underlying34 .i64 (k : Int) (by omega) (by omega), ← hv]
   kernel_rfl
  unfold Oper.wp
  simp only [execOp, Sem.run_bind, hx, hh, Option.map_some, Option.map_none, run_sliceAt_slice w 34 _ _ _ _ Tryz.underlying34, hrun, Result.andThen_ok]
  exact hKk _ _ hq
theorem wpList_appWf {ops : Array Oper} {rest : List Oper} {o : Oper} {a : Act} {w : World} {Q : Exit → Act → World → Prop} (hgd : o.guard = none) (s x : Operand) (ho : o.op = .call { callee := .builtin .append, args := #[s, x], argTypes := #[34, 34] })
    (base : Nat) (v : Value) (L : List FN) (hs : a.eval s = v) (hown : FL w base v L) (la : Option Addr) (n lc : Nat) (R : List FN) (hx : a.eval x = .slice la n lc) (hW : WinF w la n lc R) (hL : L.length ≤ 100000) (hR : R.length ≤ 100000) (hbase : base ≤ w.heap.size)
    (h : ∀ v' w', FL w' base v' (L ++ R) → w.grownBy w' v.ownBlock → (v'.ownBlock = v.ownBlock ∨ v'.ownBlock = some w.heap.size) → wpList Tryz.prog ops Q rest (a.put o.dst v') w') : wpList Tryz.prog ops Q (o :: rest) a w := by
  obtain ⟨i, z, hi, hz0, hz1, hz2, hz3⟩ := Tryz.infoF
  obtain ⟨hn, ⟨rfl, rfl, rfl⟩ | ⟨g, of, rfl, hc⟩⟩ := hW
  · have hR0 : R = [] := List.eq_nil_of_length_eq_zero hn
    subst hR0
    exact wpList_append_own_none hgd s x 34 ho base 72 i 40 Tryz.underlying34 hi v L.length (fcs L) hs hown hx (h v w (by rw [List.append_nil]; exact hown) ⟨rfl, rfl, rfl, Nat.le_refl _, fun _ _ _ => rfl⟩ (.inl rfl))
  · subst hn
    refine wpList_append_own_at w hgd s x 34 ho base 72 i z 40 i.bytes Tryz.underlying34 hi hz0 hz1 rfl hz2 (by decide) v L.length (fcs L) hs hown ⟨g, of, none⟩ R.length lc (fcs R) hx (fcs_len R) ?_ ?_ (by unfold maxLen; omega) ?_ hbase ?_
    · intro j u hj
      rw [Addr.add_lit]
      exact hc j u hj
    · intro u hu
      obtain ⟨o', _, hu'⟩ := List.mem_flatMap.1 hu
      exact flC_one o' u hu'
    · calc (L.length + R.length) * i.bytes ≤ 200000 * 1000 := Nat.mul_le_mul (by omega) hz3
        _ ≤ _ := by decide
    · intro v' w' h1 h2 _ h4
      refine h v' w' ?_ h2 h4
      show w'.ownsRow base 72 40 v' (L ++ R).length (fcs (L ++ R))
      rw [fcs_app, List.length_append]
      exact h1
theorem RvtAt.set {w : World} {O : Nat} {c c' : CF} {a a' : Option Addr} {n n' k k' : Nat} (h : RvtAt w O c a n k) (i : Nat) (v : Value) (hC : (rvC c a n k).setIfInBounds i v = rvC c' a' n' k') : RvtAt (w.setCell ⟨O, i, none⟩ v) O c' a' n' k' := by
 unfold RvtAt at h ⊢
 rw [heap_setCell_same w O i _ _ v h, hC]
theorem set_fl (c : CF) (a a' : Option Addr) (n n' k k' : Nat) : (rvC c a n k).setIfInBounds 25 (.slice a' n' k') = rvC c a' n' k' := by
 simp only [rvC, List.setIfInBounds_toArray, List.set_cons_succ, List.set_cons_zero]
end Go.Proofs.YtclpeepnngegaaaGreatDoor
