/-
  RFk: lemmas of the proof of FlowPlays, and walks through the functions that it calls.
-/
import Derived.Test.YtclpeepnngegaaaGreatDoorP00
import Derived.Test.YtclpeepnngegaaaGreatDoorP30
namespace Go.Proofs.YtclpeepnngegaaaGreatDoor
open Go.RowKit Go.Maps
theorem run_flo2 (x : TU) (w : World) : (Instr.build 72 #[(0, .agg (tuC x)), (2, .int .i64 7)]).run Tryz.prog w = .ok (.agg (flC ⟨x, 0, 7, 0⟩)) w := by kernel_rfl
theorem wpList_flo2 {ops : Array Oper} {rest : List Oper} {o : Oper} {a_ : Act} {w : World} {Q : Exit → Act → World → Prop} (y0 y1 : Operand) (ho : o.op = .build 72 #[(0, y0), (2, y1)]) (x : TU) (h0 : a_.eval y0 = .agg (tuC x)) (h1 : a_.eval y1 = .int .i64 7) (hw : Region.wanted o (yielded ops a_.tmps) = true)
    (h : wpList Tryz.prog ops Q rest (a_.put o.dst (.agg (flC ⟨x, 0, 7, 0⟩))) w) : wpList Tryz.prog ops Q (o :: rest) a_ w := by
  refine wpList_step fun K hK => ?_
  rw [if_pos hw]
  have hrun : (execOp a_.eval o).run Tryz.prog w = .ok (.value (.agg (flC ⟨x, 0, 7, 0⟩))) w := by
   obtain ⟨dst, op, type, pos, after, guard⟩ := o
   simp only at ho
   subst ho
   simp only [execOp, Sem.run_bind, List.map_toArray, List.map_cons, List.map_nil, h0, h1, run_flo2 x w, Result.andThen_ok]
   rfl
  unfold Oper.wp
  rw [hrun]
  exact hK _ _ h
theorem results_flo2 {fn : Func} {p u : Tmp} (h : fn.results = #[.cell p 72, .tmp u]) (tmps : Array Value) (w : World) (O : Nat) (f : FN) (hp : tmps.getD p undef = .pointer (some ⟨O, 0, none⟩)) (hb : FloAt w O f) :
    (results fn tmps).run Tryz.prog w = .ok (.tuple #[.agg (flC f), tmps.getD u undef]) w := by
  have hp' : tmps[p]?.getD undef = .pointer (some ⟨O, 0, none⟩) := by simpa using hp
  simp [results, h, hp', asAddr, run_loadVar_row w O _ 72 (flC f) _ _ hb Tryz.underlying72 rfl Tryz.size_flo]
def rbE (c : CF) (L : List FN) (x : TU) (fl : Int) : Int := if (x.pr == 6 && rs (sgN 6 fl) != 4) = true then 173 else if (x.pr == ecN x.sV && (x.dp != 0 || x.sp == 0)) = true then 173 else if c.mx ≤ (L.length : Int) then 171 else if (x.sV == 4 && prt c L x == 0) = true then 172 else 0
set_option maxHeartbeats 6400000 in
set_option maxRecDepth 100000 in
theorem beginR_any (base : Nat) (c : CF) (a : Option Addr) (n m : Nat) (L : List FN) (x : TU) (fl : Int) (w : World) (h : FL w base (.slice a n m) L) (hn : L.length = n) (hL : n ≤ 4200) (hc : -1000000 ≤ c.lo ∧ c.hi ≤ 1000000) : Calls Tryz.prog 36 #[.agg (rvC c a n m), .agg (tuC x), .int .i64 fl] w fun r w' => ∃ f er, r = .returned (.tuple #[.agg (flC f), .int .i64 er]) ∧ rbE c L x fl = er ∧ (er = 0 → f = ⟨x, prt c L x, if (x.pr == 6) = true then 1 else 7, 0⟩) ∧ Below w.heap.size w w' := by
 have HH : Hid (FL w base (.slice a n m) L ∧ L.length = n ∧ n ≤ 4200 ∧ (-1000000 ≤ c.lo ∧ c.hi ≤ 1000000)) := ⟨h, hn, hL, hc⟩
 clear h hn hL hc
 obtain ⟨Wb, B, HSZX, HOX, HLX, HWX, hb⟩ := zBx w (rvC c a n m) 36
 have HBX : Hid (RvtAt Wb B c a n m) := hb
 obtain ⟨CX, hC⟩ : ∃ C, C = rvC c a n m := ⟨_, rfl⟩
 rw [← hC] at HWX ⊢
 clear hb hC
 obtain ⟨Wd, D, HSZZ, HOZ, HLZ, HWZ, hb⟩ := zBx Wb (tuC x) 38
 have HBZ : Hid (TupAt Wd D x) := hb
 obtain ⟨CZ, hC⟩ : ∃ C, C = tuC x := ⟨_, rfl⟩
 rw [← hC] at HWZ ⊢
 clear hb hC
 obtain ⟨Ya, O, -, HOY, HLY, HEY, hb⟩ := zBx Wd (flC fz0) 72
 have HNY : Hid (FloAt Ya O fz0) := hb
 clear hb
 obtain ⟨Y2, OF, -, HOV, HLV, HEV, hb⟩ := zBx Ya (flC fz0) 72
 have HNV : Hid (FloAt Y2 OF fz0) := hb
 clear hb
 have HNUM : Hid (w.heap.size = B ∧ B < D ∧ D < O ∧ O < OF) := by
  have h1 := HOX.out; have h2 := HSZX.out; have h3 := HOZ.out; have h4 := HSZZ.out; have h5 := HOY.out; have h6 := HNY.out.lt; have h7 := HOV.out
  exact ⟨by omega, by omega, by omega, by omega⟩
 have HDY : Hid (TupAt Ya D x) := HBZ.out.below HLY.out
 go_enter Tryz.func36, Tryz.ntmps36
 go_upto_region 2 with (first | (rw [HOX.out, HWX.out]) | (rw [HOZ.out, HWZ.out]) | (refine wpList_alloc_flo rfl rfl ?_; first | rw [HEY.out, HOY.out] | rw [HEV.out, HOV.out]) | (refine wpList_load_tup (.tmp 4) rfl D x rfl HDY.out rfl ?_) | (refine wpList_flo2 (.tmp 9) (.const (.int .i64 7)) rfl x rfl rfl rfl ?_) | (refine wpList_store_flo (.tmp 8) (.tmp 10) rfl rfl OF fz0 ⟨x, 0, 7, 0⟩ rfl rfl HNV.out rfl ?_; intro w0 h0 k0))
 have H0 : Hid (RvtAt w0 B c a n m ∧ TupAt w0 D x ∧ FL w0 base (.slice a n m) L ∧ FloAt w0 O fz0 ∧ FloAt w0 OF (⟨x, 0, 7, 0⟩) ∧ Below w.heap.size w w0) := by
  obtain ⟨q1, q2, q3, q4⟩ := HNUM.out
  have b2 := bthen (bthen HLX.out HLZ.out) HLY.out
  have b3 := bthen b2 HLV.out
  have hfl : ∀ q, (Value.slice a n m).ownBlock = some q → q ≠ OF := fun q hq e => by have := fl_lt HH.out.1 hq; omega
  exact ⟨(((HBX.out.below HLZ.out).below HLY.out).below HLV.out).ch k0 (by omega), (HDY.out.below HLV.out).ch k0 (by omega), (HH.out.1.below b3).ch k0 (fun q hq e => hfl q hq e), (HNY.out.below HLV.out).ch k0 (by omega), h0, b3.trans (k0.below (fun q hq => by have e' : q = OF := hq; omega) b3.size)⟩
 clear h0 k0
 have d0 : w0.cell? ⟨D, 0, none⟩ = some (.int .i64 x.pr) := H0.out.2.1.c0
 obtain ⟨e0, h0⟩ : ∃ b, (x.pr == 6) = b := ⟨_, rfl⟩
 have HE0 : Hid ((x.pr == 6) = e0) := h0
 cases e0 with
 | true =>
  have c38 := H0.out.2.2.2.2.1.c38
  have f38 := H0.out.2.2.2.2.1.fz 38
  go_upto_region 4 with fail
  obtain ⟨w1, hnew⟩ : ∃ y, w0.setCell ⟨OF, 38, none⟩ (.int .i64 1) = y := ⟨_, rfl⟩
  have Hw1 : Hid (RvtAt w1 B c a n m ∧ TupAt w1 D x ∧ FL w1 base (.slice a n m) L ∧ FloAt w1 O fz0 ∧ FloAt w1 OF (⟨x, 0, 1, 0⟩) ∧ Below w.heap.size w w1) := by
   obtain ⟨q1, q2, q3, q4⟩ := HNUM.out
   have h1 := FloAt.set (x' := ⟨x, 0, 1, 0⟩) H0.out.2.2.2.2.1 38 (.int .i64 1) (by rfl)
   have k3 := (Ch.refl (fun q => q = OF) w0).set ⟨OF, 38, none⟩ (.int .i64 1) rfl
   rw [hnew] at h1 k3
   have hfl : ∀ q, (Value.slice a n m).ownBlock = some q → q ≠ OF := fun q hq e => by have := fl_lt HH.out.1 hq; omega
   exact ⟨H0.out.1.ch k3 (by omega), H0.out.2.1.ch k3 (by omega), H0.out.2.2.1.ch k3 (fun q hq e => hfl q hq e), H0.out.2.2.2.1.ch k3 (by omega), h1, H0.out.2.2.2.2.2.trans (k3.below (fun q hq => by have e' : q = OF := hq; omega) H0.out.2.2.2.2.2.size)⟩
  rw [hnew]
  clear hnew
  clear c38 f38 d0
  obtain ⟨sg, hsg⟩ : ∃ v, rs (sgN 6 fl) = v := ⟨_, rfl⟩
  have qs := segR_any fl w1
  rw [hsg] at qs
  have QS : Hid _ := qs
  obtain ⟨e5, h5⟩ : ∃ b, (sg != 4) = b := ⟨_, rfl⟩
  have HE5 : Hid ((rs (sgN 6 fl) != 4) = e5) := by show _ = _; rw [hsg]; exact h5
  clear qs hsg
  go_wp2_with fail
  refine Calls.mono QS.out ?_
  rintro e8 _ ⟨rfl, rfl⟩
  clear QS
  cases e5 with
  | true =>
   go_wp2_with (first | (refine wpList_load_flo (.tmp 8) rfl OF (⟨x, 0, 1, 0⟩) rfl Hw1.out.2.2.2.2.1 rfl ?_) | (refine wpList_store_flo (.tmp 6) (.tmp 18) rfl rfl O fz0 (⟨x, 0, 1, 0⟩) rfl rfl Hw1.out.2.2.2.1 rfl ?_))
   intro w7 h7 k7
   have b7 : Below w.heap.size w w7 := Hw1.out.2.2.2.2.2.trans (k7.below (fun q hq => by have e' : q = O := hq; have := HNUM.out; omega) Hw1.out.2.2.2.2.2.size)
   go_wp2_with fail
   refine bodyPost_ret (results_flo2 rfl _ _ O _ rfl h7) rfl ?_
   exact ⟨⟨x, 0, 1, 0⟩, 173, rfl, by unfold rbE; rw [HE0.out, HE5.out]; rfl, fun h => absurd h (by decide), b7⟩
  | false =>
   obtain ⟨e1, h1⟩ : ∃ b, (x.pr == ecN x.sV) = b := ⟨_, rfl⟩
   obtain ⟨e2, h2⟩ : ∃ b, (x.dp != 0) = b := ⟨_, rfl⟩
   obtain ⟨e3, h3⟩ : ∃ b, (x.sp == 0) = b := ⟨_, rfl⟩
   have HE : Hid ((x.pr == ecN x.sV) = e1 ∧ (x.dp != 0) = e2 ∧ (x.sp == 0) = e3) := ⟨h1, h2, h3⟩
   have HQ1 : Hid ((x.pr == 6 && rs (sgN 6 fl) != 4) = false) := by show _ = _; rw [HE0.out, HE5.out]; rfl
   obtain ⟨e4, h4⟩ : ∃ b, decide (c.mx ≤ (n : Int)) = b := ⟨_, rfl⟩
   have HE4 : Hid ((e4 = true → c.mx ≤ (L.length : Int)) ∧ (e4 = false → (L.length : Int) < c.mx)) := by
    have hl := HH.out.2.1
    refine ⟨fun h => ?_, fun h => ?_⟩
    · rw [hl]; rw [h] at h4; exact of_decide_eq_true h4
    · rw [hl]; rw [h] at h4; have h5 := of_decide_eq_false h4; omega
   cases e1 with
   | false =>
    go_upto_region 6 with fail
    refine MixH.start (fun A => TupAt A D x) (by kernel_rfl) ?_
    obtain ⟨wA, hwA⟩ : ∃ wA, wA = w1.drew := ⟨_, rfl⟩
    have bdr := zDr hwA
    have HA : Hid (RvtAt wA B c a n m ∧ TupAt wA D x ∧ FL wA base (.slice a n m) L ∧ FloAt wA O fz0 ∧ FloAt wA OF (⟨x, 0, 1, 0⟩) ∧ Below w.heap.size w wA) := ⟨Hw1.out.1.below bdr, Hw1.out.2.1.below bdr, Hw1.out.2.2.1.below bdr, Hw1.out.2.2.2.1.below bdr, Hw1.out.2.2.2.2.1.below bdr, bthen Hw1.out.2.2.2.2.2 bdr⟩
    have hS : TupAt wA D x := HA.out.2.1
    rw [← hwA]
    clear hwA bdr
    refine MixH.tks [true, false, true, true] 14 hS (fun K hK => ?_)
    simp only [Mix.pick]
    repeat (go_big_quiet_step (fail))
    refine wpQuiet_nil (hK _ ?_)
    clear hK K
    refine MixH.tk 13 1 rfl (.int .i64 x.pr) (yields_int (.tmp 19) rfl ⟨D, 0, none⟩ (.int .i64 x.pr) rfl rfl (fun A hA => hA.c0)) hS (fun a' ha => ?_)
    simp only [zP1, zP2, zP3, zP4] at ha
    subst ha
    refine MixH.tk 12 4 rfl (.int .i64 x.sV) (yields_int (.tmp 22) rfl ⟨D, 1, none⟩ (.int .i64 x.sV) rfl rfl (fun A hA => hA.c1)) hS (fun a' ha => ?_)
    simp only [zP1, zP2, zP3, zP4] at ha
    subst ha
    refine MixH.one [false, false, false, false, false, true] 11 5 _ rfl rfl (by kernel_rfl) (by kernel_rfl) (fun K hK => ?_)
    simp only [Mix.pick]
    go_wp2_with fail
    refine Calls.mono (echoR_any x.sV wA) ?_
    rintro e5 _ ⟨rfl, rfl⟩
    go_wp2_with fail
    refine ⟨rfl, hK _ _ hS ?_⟩
    clear hK K
    refine MixH.tks [false, false, false, false, false, false, true, true, true] 8 hS (fun K hK => ?_)
    simp only [Mix.pick]
    repeat (go_big_quiet_step (fail))
    refine wpQuiet_nil (hK _ ?_)
    clear hK K
    refine MixH.tk 7 9 rfl (undef) (.inr ⟨rfl, rfl⟩) hS (fun a' ha => ?_)
    simp only [zP1, zP2, zP3, zP4] at ha
    subst ha
    refine MixH.tks [false, false, false, false, false, false, false, false, false, false, true, true, true] 4 hS (fun K hK => ?_)
    simp only [Mix.pick]
    repeat (go_big_quiet_step (fail))
    refine wpQuiet_nil (hK _ ?_)
    clear hK K
    refine MixH.tk 3 13 rfl (undef) (.inr ⟨rfl, rfl⟩) hS (fun a' ha => ?_)
    simp only [zP1, zP2, zP3, zP4] at ha
    subst ha
    refine MixH.tks [false, false, false, false, false, false, false, false, false, false, false, false, false, false, true, true, true] 0 hS (fun K hK => ?_)
    simp only [Mix.pick]
    repeat (go_big_quiet_step (fail))
    refine wpQuiet_nil (hK _ ?_)
    clear hK K
    refine MixH.done (by kernel_rfl) ?_
    clear hS
    go_upto_region 8 with fail
    have c25 : wA.cell? ⟨B, 25, none⟩ = some (.slice a n m) := HA.out.1.cell 25
    have c0 : wA.cell? ⟨B, 0, none⟩ = some (.int .i64 c.mx) := HA.out.1.cell 0
    cases e4 with
    | true =>
     have HE5' : Hid (c.mx ≤ (L.length : Int)) := HE4.out.1 rfl
     go_wp2_with (first | (refine wpList_load_flo (.tmp 8) rfl OF (⟨x, 0, 1, 0⟩) rfl HA.out.2.2.2.2.1 rfl ?_) | (refine wpList_store_flo (.tmp 6) (.tmp 44) rfl rfl O fz0 (⟨x, 0, 1, 0⟩) rfl rfl HA.out.2.2.2.1 rfl ?_))
     intro w7 h7 k7
     have b7 : Below w.heap.size w w7 := HA.out.2.2.2.2.2.trans (k7.below (fun q hq => by have e' : q = O := hq; have := HNUM.out; omega) HA.out.2.2.2.2.2.size)
     go_wp2_with fail
     refine bodyPost_ret (results_flo2 rfl _ _ O _ rfl h7) rfl ?_
     exact ⟨⟨x, 0, 1, 0⟩, 171, rfl, by unfold rbE; rw [HQ1.out, HE.out.1, Bool.false_and, if_neg (by decide), if_neg (by decide), if_pos HE5'.out], fun h => absurd h (by decide), b7⟩
    | false =>
     have HE5' : Hid ((L.length : Int) < c.mx) := HE4.out.2 rfl
     have QP : Hid _ := portR_any base c a n m L x wA HA.out.2.2.1 HH.out.2.1 HH.out.2.2.1 HH.out.2.2.2
     have HFA : Hid (rbE c L x fl = if (x.sV == 4 && prt c L x == 0) = true then 172 else 0) := by show _ = _; unfold rbE; rw [HQ1.out, HE.out.1, Bool.false_and, if_neg (by decide), if_neg (by decide), if_neg (by have := HE5'.out; omega)]
     go_upto_region 10 with fail
     go_wp2_with (first | (refine wpList_load_rvt (.tmp 3) rfl B c a n m rfl HA.out.1 rfl ?_) | (refine wpList_load_tup (.tmp 4) rfl D x rfl HA.out.2.1 rfl ?_))
     refine Calls.mono QP.out ?_
     rintro e9 w3 ⟨rfl, b3⟩
     have HP : Hid (RvtAt w3 B c a n m ∧ TupAt w3 D x ∧ FL w3 base (.slice a n m) L ∧ FloAt w3 O fz0 ∧ FloAt w3 OF (⟨x, 0, 1, 0⟩) ∧ Below w.heap.size w w3) := ⟨HA.out.1.below b3, HA.out.2.1.below b3, HA.out.2.2.1.below b3, HA.out.2.2.2.1.below b3, HA.out.2.2.2.2.1.below b3, bthen HA.out.2.2.2.2.2 b3⟩
     have c37 := HP.out.2.2.2.2.1.c37
     have f37 := HP.out.2.2.2.2.1.fz 37
     clear b3 QP
     obtain ⟨pn, hpn⟩ : ∃ v, prt c L x = v := ⟨_, rfl⟩
     have HPN : Hid (prt c L x = pn) := hpn
     rw [hpn]
     clear hpn
     go_upto_region 11 with fail
     obtain ⟨w4, hnew⟩ : ∃ y, w3.setCell ⟨OF, 37, none⟩ (.int .i64 pn) = y := ⟨_, rfl⟩
     have Hw4 : Hid (RvtAt w4 B c a n m ∧ TupAt w4 D x ∧ FL w4 base (.slice a n m) L ∧ FloAt w4 O fz0 ∧ FloAt w4 OF (⟨x, pn, 1, 0⟩) ∧ Below w.heap.size w w4) := by
      obtain ⟨q1, q2, q3, q4⟩ := HNUM.out
      have h1 := FloAt.set (x' := ⟨x, pn, 1, 0⟩) HP.out.2.2.2.2.1 37 (.int .i64 pn) (by rfl)
      have k3 := (Ch.refl (fun q => q = OF) w3).set ⟨OF, 37, none⟩ (.int .i64 pn) rfl
      rw [hnew] at h1 k3
      have hfl : ∀ q, (Value.slice a n m).ownBlock = some q → q ≠ OF := fun q hq e => by have := fl_lt HH.out.1 hq; omega
      exact ⟨HP.out.1.ch k3 (by omega), HP.out.2.1.ch k3 (by omega), HP.out.2.2.1.ch k3 (fun q hq e => hfl q hq e), HP.out.2.2.2.1.ch k3 (by omega), h1, HP.out.2.2.2.2.2.trans (k3.below (fun q hq => by have e' : q = OF := hq; omega) HP.out.2.2.2.2.2.size)⟩
     rw [hnew]
     clear hnew
     clear c37 f37
     have c37 : w4.cell? ⟨OF, 37, none⟩ = some (.int .i64 pn) := Hw4.out.2.2.2.2.1.c37
     have d1' : w4.cell? ⟨D, 1, none⟩ = some (.int .i64 x.sV) := Hw4.out.2.1.c1
     obtain ⟨e6, h6⟩ : ∃ b, (x.sV == 4) = b := ⟨_, rfl⟩
     obtain ⟨e7, h7⟩ : ∃ b, (pn == 0) = b := ⟨_, rfl⟩
     have HE6 : Hid ((x.sV == 4) = e6 ∧ (prt c L x == 0) = e7) := ⟨h6, by rw [HPN.out]; exact h7⟩
     cases e6 with
     | false =>
      go_wp2_with (first | (refine wpList_load_flo (.tmp 8) rfl OF (⟨x, pn, 1, 0⟩) rfl Hw4.out.2.2.2.2.1 rfl ?_) | (refine wpList_store_flo (.tmp 6) (.tmp 59) rfl rfl O fz0 (⟨x, pn, 1, 0⟩) rfl rfl Hw4.out.2.2.2.1 rfl ?_))
      intro w7 h7 k7
      have b7 : Below w.heap.size w w7 := Hw4.out.2.2.2.2.2.trans (k7.below (fun q hq => by have e' : q = O := hq; have := HNUM.out; omega) Hw4.out.2.2.2.2.2.size)
      go_wp2_with fail
      refine bodyPost_ret (results_flo2 rfl _ _ O _ rfl h7) rfl ?_
      exact ⟨⟨x, pn, 1, 0⟩, 0, rfl, by rw [HFA.out, HE6.out.1] <;> rfl, fun _ => by rw [HPN.out] <;> (rw [HE0.out] <;> rfl), b7⟩
     | true =>
      cases e7 with
      | false =>
       go_wp2_with (first | (refine wpList_load_flo (.tmp 8) rfl OF (⟨x, pn, 1, 0⟩) rfl Hw4.out.2.2.2.2.1 rfl ?_) | (refine wpList_store_flo (.tmp 6) (.tmp 59) rfl rfl O fz0 (⟨x, pn, 1, 0⟩) rfl rfl Hw4.out.2.2.2.1 rfl ?_))
       intro w7 h7 k7
       have b7 : Below w.heap.size w w7 := Hw4.out.2.2.2.2.2.trans (k7.below (fun q hq => by have e' : q = O := hq; have := HNUM.out; omega) Hw4.out.2.2.2.2.2.size)
       go_wp2_with fail
       refine bodyPost_ret (results_flo2 rfl _ _ O _ rfl h7) rfl ?_
       exact ⟨⟨x, pn, 1, 0⟩, 0, rfl, by rw [HFA.out, HE6.out.1, HE6.out.2] <;> rfl, fun _ => by rw [HPN.out] <;> (rw [HE0.out] <;> rfl), b7⟩
      | true =>
       go_wp2_with (first | (refine wpList_load_flo (.tmp 8) rfl OF (⟨x, pn, 1, 0⟩) rfl Hw4.out.2.2.2.2.1 rfl ?_) | (refine wpList_store_flo (.tmp 6) (.tmp 58) rfl rfl O fz0 (⟨x, pn, 1, 0⟩) rfl rfl Hw4.out.2.2.2.1 rfl ?_))
       intro w7 h7 k7
       have b7 : Below w.heap.size w w7 := Hw4.out.2.2.2.2.2.trans (k7.below (fun q hq => by have e' : q = O := hq; have := HNUM.out; omega) Hw4.out.2.2.2.2.2.size)
       go_wp2_with fail
       refine bodyPost_ret (results_flo2 rfl _ _ O _ rfl h7) rfl ?_
       exact ⟨⟨x, pn, 1, 0⟩, 172, rfl, by rw [HFA.out, HE6.out.1, HE6.out.2] <;> rfl, fun h => absurd h (by decide), b7⟩
   | true =>
    cases e2 with
    | true =>
     go_upto_region 6 with fail
     refine MixH.start (fun A => TupAt A D x) (by kernel_rfl) ?_
     obtain ⟨wA, hwA⟩ : ∃ wA, wA = w1.drew := ⟨_, rfl⟩
     have bdr := zDr hwA
     have HA : Hid (RvtAt wA B c a n m ∧ TupAt wA D x ∧ FL wA base (.slice a n m) L ∧ FloAt wA O fz0 ∧ FloAt wA OF (⟨x, 0, 1, 0⟩) ∧ Below w.heap.size w wA) := ⟨Hw1.out.1.below bdr, Hw1.out.2.1.below bdr, Hw1.out.2.2.1.below bdr, Hw1.out.2.2.2.1.below bdr, Hw1.out.2.2.2.2.1.below bdr, bthen Hw1.out.2.2.2.2.2 bdr⟩
     have hS : TupAt wA D x := HA.out.2.1
     rw [← hwA]
     clear hwA bdr
     refine MixH.tks [true, false, true, true] 14 hS (fun K hK => ?_)
     simp only [Mix.pick]
     repeat (go_big_quiet_step (fail))
     refine wpQuiet_nil (hK _ ?_)
     clear hK K
     refine MixH.tk 13 1 rfl (.int .i64 x.pr) (yields_int (.tmp 19) rfl ⟨D, 0, none⟩ (.int .i64 x.pr) rfl rfl (fun A hA => hA.c0)) hS (fun a' ha => ?_)
     simp only [zP1, zP2, zP3, zP4] at ha
     subst ha
     refine MixH.tk 12 4 rfl (.int .i64 x.sV) (yields_int (.tmp 22) rfl ⟨D, 1, none⟩ (.int .i64 x.sV) rfl rfl (fun A hA => hA.c1)) hS (fun a' ha => ?_)
     simp only [zP1, zP2, zP3, zP4] at ha
     subst ha
     refine MixH.one [false, false, false, false, false, true] 11 5 _ rfl rfl (by kernel_rfl) (by kernel_rfl) (fun K hK => ?_)
     simp only [Mix.pick]
     go_wp2_with fail
     refine Calls.mono (echoR_any x.sV wA) ?_
     rintro e5 _ ⟨rfl, rfl⟩
     go_wp2_with fail
     refine ⟨rfl, hK _ _ hS ?_⟩
     clear hK K
     refine MixH.tks [false, false, false, false, false, false, true, true, true] 8 hS (fun K hK => ?_)
     simp only [Mix.pick]
     repeat (go_big_quiet_step (fail))
     refine wpQuiet_nil (hK _ ?_)
     clear hK K
     refine MixH.tk 7 9 rfl (.int .i64 x.dp) (yields_int (.tmp 27) rfl ⟨D, 36, none⟩ (.int .i64 x.dp) rfl rfl (fun A hA => hA.c36)) hS (fun a' ha => ?_)
     simp only [zP1, zP2, zP3, zP4] at ha
     subst ha
     refine MixH.tks [false, false, false, false, false, false, false, false, false, false, true, true, true] 4 hS (fun K hK => ?_)
     simp only [Mix.pick]
     repeat (go_big_quiet_step (fail))
     refine wpQuiet_nil (hK _ ?_)
     clear hK K
     refine MixH.tk 3 13 rfl (undef) (.inr ⟨rfl, rfl⟩) hS (fun a' ha => ?_)
     simp only [zP1, zP2, zP3, zP4] at ha
     subst ha
     refine MixH.tks [false, false, false, false, false, false, false, false, false, false, false, false, false, false, true, true, true] 0 hS (fun K hK => ?_)
     simp only [Mix.pick]
     repeat (go_big_quiet_step (fail))
     refine wpQuiet_nil (hK _ ?_)
     clear hK K
     refine MixH.done (by kernel_rfl) ?_
     clear hS
     go_wp2_with (first | (refine wpList_load_flo (.tmp 8) rfl OF (⟨x, 0, 1, 0⟩) rfl HA.out.2.2.2.2.1 rfl ?_) | (refine wpList_store_flo (.tmp 6) (.tmp 36) rfl rfl O fz0 (⟨x, 0, 1, 0⟩) rfl rfl HA.out.2.2.2.1 rfl ?_))
     intro w7 h7 k7
     have b7 : Below w.heap.size w w7 := HA.out.2.2.2.2.2.trans (k7.below (fun q hq => by have e' : q = O := hq; have := HNUM.out; omega) HA.out.2.2.2.2.2.size)
     go_wp2_with fail
     refine bodyPost_ret (results_flo2 rfl _ _ O _ rfl h7) rfl ?_
     exact ⟨⟨x, 0, 1, 0⟩, 173, rfl, by unfold rbE; rw [HQ1.out, HE.out.1, HE.out.2.1]; rfl, fun h => absurd h (by decide), b7⟩
    | false =>
     cases e3 with
     | true =>
      go_upto_region 6 with fail
      refine MixH.start (fun A => TupAt A D x) (by kernel_rfl) ?_
      obtain ⟨wA, hwA⟩ : ∃ wA, wA = w1.drew := ⟨_, rfl⟩
      have bdr := zDr hwA
      have HA : Hid (RvtAt wA B c a n m ∧ TupAt wA D x ∧ FL wA base (.slice a n m) L ∧ FloAt wA O fz0 ∧ FloAt wA OF (⟨x, 0, 1, 0⟩) ∧ Below w.heap.size w wA) := ⟨Hw1.out.1.below bdr, Hw1.out.2.1.below bdr, Hw1.out.2.2.1.below bdr, Hw1.out.2.2.2.1.below bdr, Hw1.out.2.2.2.2.1.below bdr, bthen Hw1.out.2.2.2.2.2 bdr⟩
      have hS : TupAt wA D x := HA.out.2.1
      rw [← hwA]
      clear hwA bdr
      refine MixH.tks [true, false, true, true] 14 hS (fun K hK => ?_)
      simp only [Mix.pick]
      repeat (go_big_quiet_step (fail))
      refine wpQuiet_nil (hK _ ?_)
      clear hK K
      refine MixH.tk 13 1 rfl (.int .i64 x.pr) (yields_int (.tmp 19) rfl ⟨D, 0, none⟩ (.int .i64 x.pr) rfl rfl (fun A hA => hA.c0)) hS (fun a' ha => ?_)
      simp only [zP1, zP2, zP3, zP4] at ha
      subst ha
      refine MixH.tk 12 4 rfl (.int .i64 x.sV) (yields_int (.tmp 22) rfl ⟨D, 1, none⟩ (.int .i64 x.sV) rfl rfl (fun A hA => hA.c1)) hS (fun a' ha => ?_)
      simp only [zP1, zP2, zP3, zP4] at ha
      subst ha
      refine MixH.one [false, false, false, false, false, true] 11 5 _ rfl rfl (by kernel_rfl) (by kernel_rfl) (fun K hK => ?_)
      simp only [Mix.pick]
      go_wp2_with fail
      refine Calls.mono (echoR_any x.sV wA) ?_
      rintro e5 _ ⟨rfl, rfl⟩
      go_wp2_with fail
      refine ⟨rfl, hK _ _ hS ?_⟩
      clear hK K
      refine MixH.tks [false, false, false, false, false, false, true, true, true] 8 hS (fun K hK => ?_)
      simp only [Mix.pick]
      repeat (go_big_quiet_step (fail))
      refine wpQuiet_nil (hK _ ?_)
      clear hK K
      refine MixH.tk 7 9 rfl (.int .i64 x.dp) (yields_int (.tmp 27) rfl ⟨D, 36, none⟩ (.int .i64 x.dp) rfl rfl (fun A hA => hA.c36)) hS (fun a' ha => ?_)
      simp only [zP1, zP2, zP3, zP4] at ha
      subst ha
      refine MixH.tks [false, false, false, false, false, false, false, false, false, false, true, true, true] 4 hS (fun K hK => ?_)
      simp only [Mix.pick]
      repeat (go_big_quiet_step (fail))
      refine wpQuiet_nil (hK _ ?_)
      clear hK K
      refine MixH.tk 3 13 rfl (.int .i64 x.sp) (yields_int (.tmp 31) rfl ⟨D, 35, none⟩ (.int .i64 x.sp) rfl rfl (fun A hA => hA.c35)) hS (fun a' ha => ?_)
      simp only [zP1, zP2, zP3, zP4] at ha
      subst ha
      refine MixH.tks [false, false, false, false, false, false, false, false, false, false, false, false, false, false, true, true, true] 0 hS (fun K hK => ?_)
      simp only [Mix.pick]
      repeat (go_big_quiet_step (fail))
      refine wpQuiet_nil (hK _ ?_)
      clear hK K
      refine MixH.done (by kernel_rfl) ?_
      clear hS
      go_wp2_with (first | (refine wpList_load_flo (.tmp 8) rfl OF (⟨x, 0, 1, 0⟩) rfl HA.out.2.2.2.2.1 rfl ?_) | (refine wpList_store_flo (.tmp 6) (.tmp 36) rfl rfl O fz0 (⟨x, 0, 1, 0⟩) rfl rfl HA.out.2.2.2.1 rfl ?_))
      intro w7 h7 k7
      have b7 : Below w.heap.size w w7 := HA.out.2.2.2.2.2.trans (k7.below (fun q hq => by have e' : q = O := hq; have := HNUM.out; omega) HA.out.2.2.2.2.2.size)
      go_wp2_with fail
      refine bodyPost_ret (results_flo2 rfl _ _ O _ rfl h7) rfl ?_
      exact ⟨⟨x, 0, 1, 0⟩, 173, rfl, by unfold rbE; rw [HQ1.out, HE.out.1, HE.out.2.1, HE.out.2.2]; rfl, fun h => absurd h (by decide), b7⟩
     | false =>
      go_upto_region 6 with fail
      refine MixH.start (fun A => TupAt A D x) (by kernel_rfl) ?_
      obtain ⟨wA, hwA⟩ : ∃ wA, wA = w1.drew := ⟨_, rfl⟩
      have bdr := zDr hwA
      have HA : Hid (RvtAt wA B c a n m ∧ TupAt wA D x ∧ FL wA base (.slice a n m) L ∧ FloAt wA O fz0 ∧ FloAt wA OF (⟨x, 0, 1, 0⟩) ∧ Below w.heap.size w wA) := ⟨Hw1.out.1.below bdr, Hw1.out.2.1.below bdr, Hw1.out.2.2.1.below bdr, Hw1.out.2.2.2.1.below bdr, Hw1.out.2.2.2.2.1.below bdr, bthen Hw1.out.2.2.2.2.2 bdr⟩
      have hS : TupAt wA D x := HA.out.2.1
      rw [← hwA]
      clear hwA bdr
      refine MixH.tks [true, false, true, true] 14 hS (fun K hK => ?_)
      simp only [Mix.pick]
      repeat (go_big_quiet_step (fail))
      refine wpQuiet_nil (hK _ ?_)
      clear hK K
      refine MixH.tk 13 1 rfl (.int .i64 x.pr) (yields_int (.tmp 19) rfl ⟨D, 0, none⟩ (.int .i64 x.pr) rfl rfl (fun A hA => hA.c0)) hS (fun a' ha => ?_)
      simp only [zP1, zP2, zP3, zP4] at ha
      subst ha
      refine MixH.tk 12 4 rfl (.int .i64 x.sV) (yields_int (.tmp 22) rfl ⟨D, 1, none⟩ (.int .i64 x.sV) rfl rfl (fun A hA => hA.c1)) hS (fun a' ha => ?_)
      simp only [zP1, zP2, zP3, zP4] at ha
      subst ha
      refine MixH.one [false, false, false, false, false, true] 11 5 _ rfl rfl (by kernel_rfl) (by kernel_rfl) (fun K hK => ?_)
      simp only [Mix.pick]
      go_wp2_with fail
      refine Calls.mono (echoR_any x.sV wA) ?_
      rintro e5 _ ⟨rfl, rfl⟩
      go_wp2_with fail
      refine ⟨rfl, hK _ _ hS ?_⟩
      clear hK K
      refine MixH.tks [false, false, false, false, false, false, true, true, true] 8 hS (fun K hK => ?_)
      simp only [Mix.pick]
      repeat (go_big_quiet_step (fail))
      refine wpQuiet_nil (hK _ ?_)
      clear hK K
      refine MixH.tk 7 9 rfl (.int .i64 x.dp) (yields_int (.tmp 27) rfl ⟨D, 36, none⟩ (.int .i64 x.dp) rfl rfl (fun A hA => hA.c36)) hS (fun a' ha => ?_)
      simp only [zP1, zP2, zP3, zP4] at ha
      subst ha
      refine MixH.tks [false, false, false, false, false, false, false, false, false, false, true, true, true] 4 hS (fun K hK => ?_)
      simp only [Mix.pick]
      repeat (go_big_quiet_step (fail))
      refine wpQuiet_nil (hK _ ?_)
      clear hK K
      refine MixH.tk 3 13 rfl (.int .i64 x.sp) (yields_int (.tmp 31) rfl ⟨D, 35, none⟩ (.int .i64 x.sp) rfl rfl (fun A hA => hA.c35)) hS (fun a' ha => ?_)
      simp only [zP1, zP2, zP3, zP4] at ha
      subst ha
      refine MixH.tks [false, false, false, false, false, false, false, false, false, false, false, false, false, false, true, true, true] 0 hS (fun K hK => ?_)
      simp only [Mix.pick]
      repeat (go_big_quiet_step (fail))
      refine wpQuiet_nil (hK _ ?_)
      clear hK K
      refine MixH.done (by kernel_rfl) ?_
      clear hS
      go_upto_region 8 with fail
      have c25 : wA.cell? ⟨B, 25, none⟩ = some (.slice a n m) := HA.out.1.cell 25
      have c0 : wA.cell? ⟨B, 0, none⟩ = some (.int .i64 c.mx) := HA.out.1.cell 0
      cases e4 with
      | true =>
       have HE5' : Hid (c.mx ≤ (L.length : Int)) := HE4.out.1 rfl
       go_wp2_with (first | (refine wpList_load_flo (.tmp 8) rfl OF (⟨x, 0, 1, 0⟩) rfl HA.out.2.2.2.2.1 rfl ?_) | (refine wpList_store_flo (.tmp 6) (.tmp 44) rfl rfl O fz0 (⟨x, 0, 1, 0⟩) rfl rfl HA.out.2.2.2.1 rfl ?_))
       intro w7 h7 k7
       have b7 : Below w.heap.size w w7 := HA.out.2.2.2.2.2.trans (k7.below (fun q hq => by have e' : q = O := hq; have := HNUM.out; omega) HA.out.2.2.2.2.2.size)
       go_wp2_with fail
       refine bodyPost_ret (results_flo2 rfl _ _ O _ rfl h7) rfl ?_
       exact ⟨⟨x, 0, 1, 0⟩, 171, rfl, by unfold rbE; rw [HQ1.out, HE.out.1, HE.out.2.1, HE.out.2.2, Bool.false_or, Bool.true_and, if_neg (by decide), if_neg (by decide), if_pos HE5'.out], fun h => absurd h (by decide), b7⟩
      | false =>
       have HE5' : Hid ((L.length : Int) < c.mx) := HE4.out.2 rfl
       have QP : Hid _ := portR_any base c a n m L x wA HA.out.2.2.1 HH.out.2.1 HH.out.2.2.1 HH.out.2.2.2
       have HFA : Hid (rbE c L x fl = if (x.sV == 4 && prt c L x == 0) = true then 172 else 0) := by show _ = _; unfold rbE; rw [HQ1.out, HE.out.1, HE.out.2.1, HE.out.2.2, Bool.false_or, Bool.true_and, if_neg (by decide), if_neg (by decide), if_neg (by have := HE5'.out; omega)]
       go_upto_region 10 with fail
       go_wp2_with (first | (refine wpList_load_rvt (.tmp 3) rfl B c a n m rfl HA.out.1 rfl ?_) | (refine wpList_load_tup (.tmp 4) rfl D x rfl HA.out.2.1 rfl ?_))
       refine Calls.mono QP.out ?_
       rintro e9 w3 ⟨rfl, b3⟩
       have HP : Hid (RvtAt w3 B c a n m ∧ TupAt w3 D x ∧ FL w3 base (.slice a n m) L ∧ FloAt w3 O fz0 ∧ FloAt w3 OF (⟨x, 0, 1, 0⟩) ∧ Below w.heap.size w w3) := ⟨HA.out.1.below b3, HA.out.2.1.below b3, HA.out.2.2.1.below b3, HA.out.2.2.2.1.below b3, HA.out.2.2.2.2.1.below b3, bthen HA.out.2.2.2.2.2 b3⟩
       have c37 := HP.out.2.2.2.2.1.c37
       have f37 := HP.out.2.2.2.2.1.fz 37
       clear b3 QP
       obtain ⟨pn, hpn⟩ : ∃ v, prt c L x = v := ⟨_, rfl⟩
       have HPN : Hid (prt c L x = pn) := hpn
       rw [hpn]
       clear hpn
       go_upto_region 11 with fail
       obtain ⟨w4, hnew⟩ : ∃ y, w3.setCell ⟨OF, 37, none⟩ (.int .i64 pn) = y := ⟨_, rfl⟩
       have Hw4 : Hid (RvtAt w4 B c a n m ∧ TupAt w4 D x ∧ FL w4 base (.slice a n m) L ∧ FloAt w4 O fz0 ∧ FloAt w4 OF (⟨x, pn, 1, 0⟩) ∧ Below w.heap.size w w4) := by
        obtain ⟨q1, q2, q3, q4⟩ := HNUM.out
        have h1 := FloAt.set (x' := ⟨x, pn, 1, 0⟩) HP.out.2.2.2.2.1 37 (.int .i64 pn) (by rfl)
        have k3 := (Ch.refl (fun q => q = OF) w3).set ⟨OF, 37, none⟩ (.int .i64 pn) rfl
        rw [hnew] at h1 k3
        have hfl : ∀ q, (Value.slice a n m).ownBlock = some q → q ≠ OF := fun q hq e => by have := fl_lt HH.out.1 hq; omega
        exact ⟨HP.out.1.ch k3 (by omega), HP.out.2.1.ch k3 (by omega), HP.out.2.2.1.ch k3 (fun q hq e => hfl q hq e), HP.out.2.2.2.1.ch k3 (by omega), h1, HP.out.2.2.2.2.2.trans (k3.below (fun q hq => by have e' : q = OF := hq; omega) HP.out.2.2.2.2.2.size)⟩
       rw [hnew]
       clear hnew
       clear c37 f37
       have c37 : w4.cell? ⟨OF, 37, none⟩ = some (.int .i64 pn) := Hw4.out.2.2.2.2.1.c37
       have d1' : w4.cell? ⟨D, 1, none⟩ = some (.int .i64 x.sV) := Hw4.out.2.1.c1
       obtain ⟨e6, h6⟩ : ∃ b, (x.sV == 4) = b := ⟨_, rfl⟩
       obtain ⟨e7, h7⟩ : ∃ b, (pn == 0) = b := ⟨_, rfl⟩
       have HE6 : Hid ((x.sV == 4) = e6 ∧ (prt c L x == 0) = e7) := ⟨h6, by rw [HPN.out]; exact h7⟩
       cases e6 with
       | false =>
        go_wp2_with (first | (refine wpList_load_flo (.tmp 8) rfl OF (⟨x, pn, 1, 0⟩) rfl Hw4.out.2.2.2.2.1 rfl ?_) | (refine wpList_store_flo (.tmp 6) (.tmp 59) rfl rfl O fz0 (⟨x, pn, 1, 0⟩) rfl rfl Hw4.out.2.2.2.1 rfl ?_))
        intro w7 h7 k7
        have b7 : Below w.heap.size w w7 := Hw4.out.2.2.2.2.2.trans (k7.below (fun q hq => by have e' : q = O := hq; have := HNUM.out; omega) Hw4.out.2.2.2.2.2.size)
        go_wp2_with fail
        refine bodyPost_ret (results_flo2 rfl _ _ O _ rfl h7) rfl ?_
        exact ⟨⟨x, pn, 1, 0⟩, 0, rfl, by rw [HFA.out, HE6.out.1] <;> rfl, fun _ => by rw [HPN.out] <;> (rw [HE0.out] <;> rfl), b7⟩
       | true =>
        cases e7 with
        | false =>
         go_wp2_with (first | (refine wpList_load_flo (.tmp 8) rfl OF (⟨x, pn, 1, 0⟩) rfl Hw4.out.2.2.2.2.1 rfl ?_) | (refine wpList_store_flo (.tmp 6) (.tmp 59) rfl rfl O fz0 (⟨x, pn, 1, 0⟩) rfl rfl Hw4.out.2.2.2.1 rfl ?_))
         intro w7 h7 k7
         have b7 : Below w.heap.size w w7 := Hw4.out.2.2.2.2.2.trans (k7.below (fun q hq => by have e' : q = O := hq; have := HNUM.out; omega) Hw4.out.2.2.2.2.2.size)
         go_wp2_with fail
         refine bodyPost_ret (results_flo2 rfl _ _ O _ rfl h7) rfl ?_
         exact ⟨⟨x, pn, 1, 0⟩, 0, rfl, by rw [HFA.out, HE6.out.1, HE6.out.2] <;> rfl, fun _ => by rw [HPN.out] <;> (rw [HE0.out] <;> rfl), b7⟩
        | true =>
         go_wp2_with (first | (refine wpList_load_flo (.tmp 8) rfl OF (⟨x, pn, 1, 0⟩) rfl Hw4.out.2.2.2.2.1 rfl ?_) | (refine wpList_store_flo (.tmp 6) (.tmp 58) rfl rfl O fz0 (⟨x, pn, 1, 0⟩) rfl rfl Hw4.out.2.2.2.1 rfl ?_))
         intro w7 h7 k7
         have b7 : Below w.heap.size w w7 := Hw4.out.2.2.2.2.2.trans (k7.below (fun q hq => by have e' : q = O := hq; have := HNUM.out; omega) Hw4.out.2.2.2.2.2.size)
         go_wp2_with fail
         refine bodyPost_ret (results_flo2 rfl _ _ O _ rfl h7) rfl ?_
         exact ⟨⟨x, pn, 1, 0⟩, 172, rfl, by rw [HFA.out, HE6.out.1, HE6.out.2] <;> rfl, fun h => absurd h (by decide), b7⟩
 | false =>
  obtain ⟨e1, h1⟩ : ∃ b, (x.pr == ecN x.sV) = b := ⟨_, rfl⟩
  obtain ⟨e2, h2⟩ : ∃ b, (x.dp != 0) = b := ⟨_, rfl⟩
  obtain ⟨e3, h3⟩ : ∃ b, (x.sp == 0) = b := ⟨_, rfl⟩
  have HE : Hid ((x.pr == ecN x.sV) = e1 ∧ (x.dp != 0) = e2 ∧ (x.sp == 0) = e3) := ⟨h1, h2, h3⟩
  have HQ1 : Hid ((x.pr == 6 && rs (sgN 6 fl) != 4) = false) := by show _ = _; rw [HE0.out]; rfl
  obtain ⟨e4, h4⟩ : ∃ b, decide (c.mx ≤ (n : Int)) = b := ⟨_, rfl⟩
  have HE4 : Hid ((e4 = true → c.mx ≤ (L.length : Int)) ∧ (e4 = false → (L.length : Int) < c.mx)) := by
   have hl := HH.out.2.1
   refine ⟨fun h => ?_, fun h => ?_⟩
   · rw [hl]; rw [h] at h4; exact of_decide_eq_true h4
   · rw [hl]; rw [h] at h4; have h5 := of_decide_eq_false h4; omega
  cases e1 with
  | false =>
   go_upto_region 6 with fail
   refine MixH.start (fun A => TupAt A D x) (by kernel_rfl) ?_
   obtain ⟨wA, hwA⟩ : ∃ wA, wA = w0.drew := ⟨_, rfl⟩
   have bdr := zDr hwA
   have HA : Hid (RvtAt wA B c a n m ∧ TupAt wA D x ∧ FL wA base (.slice a n m) L ∧ FloAt wA O fz0 ∧ FloAt wA OF (⟨x, 0, 7, 0⟩) ∧ Below w.heap.size w wA) := ⟨H0.out.1.below bdr, H0.out.2.1.below bdr, H0.out.2.2.1.below bdr, H0.out.2.2.2.1.below bdr, H0.out.2.2.2.2.1.below bdr, bthen H0.out.2.2.2.2.2 bdr⟩
   have hS : TupAt wA D x := HA.out.2.1
   rw [← hwA]
   clear hwA bdr
   refine MixH.tks [true, false, true, true] 14 hS (fun K hK => ?_)
   simp only [Mix.pick]
   repeat (go_big_quiet_step (fail))
   refine wpQuiet_nil (hK _ ?_)
   clear hK K
   refine MixH.tk 13 1 rfl (.int .i64 x.pr) (yields_int (.tmp 19) rfl ⟨D, 0, none⟩ (.int .i64 x.pr) rfl rfl (fun A hA => hA.c0)) hS (fun a' ha => ?_)
   simp only [zP1, zP2, zP3, zP4] at ha
   subst ha
   refine MixH.tk 12 4 rfl (.int .i64 x.sV) (yields_int (.tmp 22) rfl ⟨D, 1, none⟩ (.int .i64 x.sV) rfl rfl (fun A hA => hA.c1)) hS (fun a' ha => ?_)
   simp only [zP1, zP2, zP3, zP4] at ha
   subst ha
   refine MixH.one [false, false, false, false, false, true] 11 5 _ rfl rfl (by kernel_rfl) (by kernel_rfl) (fun K hK => ?_)
   simp only [Mix.pick]
   go_wp2_with fail
   refine Calls.mono (echoR_any x.sV wA) ?_
   rintro e5 _ ⟨rfl, rfl⟩
   go_wp2_with fail
   refine ⟨rfl, hK _ _ hS ?_⟩
   clear hK K
   refine MixH.tks [false, false, false, false, false, false, true, true, true] 8 hS (fun K hK => ?_)
   simp only [Mix.pick]
   repeat (go_big_quiet_step (fail))
   refine wpQuiet_nil (hK _ ?_)
   clear hK K
   refine MixH.tk 7 9 rfl (undef) (.inr ⟨rfl, rfl⟩) hS (fun a' ha => ?_)
   simp only [zP1, zP2, zP3, zP4] at ha
   subst ha
   refine MixH.tks [false, false, false, false, false, false, false, false, false, false, true, true, true] 4 hS (fun K hK => ?_)
   simp only [Mix.pick]
   repeat (go_big_quiet_step (fail))
   refine wpQuiet_nil (hK _ ?_)
   clear hK K
   refine MixH.tk 3 13 rfl (undef) (.inr ⟨rfl, rfl⟩) hS (fun a' ha => ?_)
   simp only [zP1, zP2, zP3, zP4] at ha
   subst ha
   refine MixH.tks [false, false, false, false, false, false, false, false, false, false, false, false, false, false, true, true, true] 0 hS (fun K hK => ?_)
   simp only [Mix.pick]
   repeat (go_big_quiet_step (fail))
   refine wpQuiet_nil (hK _ ?_)
   clear hK K
   refine MixH.done (by kernel_rfl) ?_
   clear hS
   go_upto_region 8 with fail
   have c25 : wA.cell? ⟨B, 25, none⟩ = some (.slice a n m) := HA.out.1.cell 25
   have c0 : wA.cell? ⟨B, 0, none⟩ = some (.int .i64 c.mx) := HA.out.1.cell 0
   cases e4 with
   | true =>
    have HE5' : Hid (c.mx ≤ (L.length : Int)) := HE4.out.1 rfl
    go_wp2_with (first | (refine wpList_load_flo (.tmp 8) rfl OF (⟨x, 0, 7, 0⟩) rfl HA.out.2.2.2.2.1 rfl ?_) | (refine wpList_store_flo (.tmp 6) (.tmp 44) rfl rfl O fz0 (⟨x, 0, 7, 0⟩) rfl rfl HA.out.2.2.2.1 rfl ?_))
    intro w7 h7 k7
    have b7 : Below w.heap.size w w7 := HA.out.2.2.2.2.2.trans (k7.below (fun q hq => by have e' : q = O := hq; have := HNUM.out; omega) HA.out.2.2.2.2.2.size)
    go_wp2_with fail
    refine bodyPost_ret (results_flo2 rfl _ _ O _ rfl h7) rfl ?_
    exact ⟨⟨x, 0, 7, 0⟩, 171, rfl, by unfold rbE; rw [HQ1.out, HE.out.1, Bool.false_and, if_neg (by decide), if_neg (by decide), if_pos HE5'.out], fun h => absurd h (by decide), b7⟩
   | false =>
    have HE5' : Hid ((L.length : Int) < c.mx) := HE4.out.2 rfl
    have QP : Hid _ := portR_any base c a n m L x wA HA.out.2.2.1 HH.out.2.1 HH.out.2.2.1 HH.out.2.2.2
    have HFA : Hid (rbE c L x fl = if (x.sV == 4 && prt c L x == 0) = true then 172 else 0) := by show _ = _; unfold rbE; rw [HQ1.out, HE.out.1, Bool.false_and, if_neg (by decide), if_neg (by decide), if_neg (by have := HE5'.out; omega)]
    go_upto_region 10 with fail
    go_wp2_with (first | (refine wpList_load_rvt (.tmp 3) rfl B c a n m rfl HA.out.1 rfl ?_) | (refine wpList_load_tup (.tmp 4) rfl D x rfl HA.out.2.1 rfl ?_))
    refine Calls.mono QP.out ?_
    rintro e9 w3 ⟨rfl, b3⟩
    have HP : Hid (RvtAt w3 B c a n m ∧ TupAt w3 D x ∧ FL w3 base (.slice a n m) L ∧ FloAt w3 O fz0 ∧ FloAt w3 OF (⟨x, 0, 7, 0⟩) ∧ Below w.heap.size w w3) := ⟨HA.out.1.below b3, HA.out.2.1.below b3, HA.out.2.2.1.below b3, HA.out.2.2.2.1.below b3, HA.out.2.2.2.2.1.below b3, bthen HA.out.2.2.2.2.2 b3⟩
    have c37 := HP.out.2.2.2.2.1.c37
    have f37 := HP.out.2.2.2.2.1.fz 37
    clear b3 QP
    obtain ⟨pn, hpn⟩ : ∃ v, prt c L x = v := ⟨_, rfl⟩
    have HPN : Hid (prt c L x = pn) := hpn
    rw [hpn]
    clear hpn
    go_upto_region 11 with fail
    obtain ⟨w4, hnew⟩ : ∃ y, w3.setCell ⟨OF, 37, none⟩ (.int .i64 pn) = y := ⟨_, rfl⟩
    have Hw4 : Hid (RvtAt w4 B c a n m ∧ TupAt w4 D x ∧ FL w4 base (.slice a n m) L ∧ FloAt w4 O fz0 ∧ FloAt w4 OF (⟨x, pn, 7, 0⟩) ∧ Below w.heap.size w w4) := by
     obtain ⟨q1, q2, q3, q4⟩ := HNUM.out
     have h1 := FloAt.set (x' := ⟨x, pn, 7, 0⟩) HP.out.2.2.2.2.1 37 (.int .i64 pn) (by rfl)
     have k3 := (Ch.refl (fun q => q = OF) w3).set ⟨OF, 37, none⟩ (.int .i64 pn) rfl
     rw [hnew] at h1 k3
     have hfl : ∀ q, (Value.slice a n m).ownBlock = some q → q ≠ OF := fun q hq e => by have := fl_lt HH.out.1 hq; omega
     exact ⟨HP.out.1.ch k3 (by omega), HP.out.2.1.ch k3 (by omega), HP.out.2.2.1.ch k3 (fun q hq e => hfl q hq e), HP.out.2.2.2.1.ch k3 (by omega), h1, HP.out.2.2.2.2.2.trans (k3.below (fun q hq => by have e' : q = OF := hq; omega) HP.out.2.2.2.2.2.size)⟩
    rw [hnew]
    clear hnew
    clear c37 f37
    have c37 : w4.cell? ⟨OF, 37, none⟩ = some (.int .i64 pn) := Hw4.out.2.2.2.2.1.c37
    have d1' : w4.cell? ⟨D, 1, none⟩ = some (.int .i64 x.sV) := Hw4.out.2.1.c1
    obtain ⟨e6, h6⟩ : ∃ b, (x.sV == 4) = b := ⟨_, rfl⟩
    obtain ⟨e7, h7⟩ : ∃ b, (pn == 0) = b := ⟨_, rfl⟩
    have HE6 : Hid ((x.sV == 4) = e6 ∧ (prt c L x == 0) = e7) := ⟨h6, by rw [HPN.out]; exact h7⟩
    cases e6 with
    | false =>
     go_wp2_with (first | (refine wpList_load_flo (.tmp 8) rfl OF (⟨x, pn, 7, 0⟩) rfl Hw4.out.2.2.2.2.1 rfl ?_) | (refine wpList_store_flo (.tmp 6) (.tmp 59) rfl rfl O fz0 (⟨x, pn, 7, 0⟩) rfl rfl Hw4.out.2.2.2.1 rfl ?_))
     intro w7 h7 k7
     have b7 : Below w.heap.size w w7 := Hw4.out.2.2.2.2.2.trans (k7.below (fun q hq => by have e' : q = O := hq; have := HNUM.out; omega) Hw4.out.2.2.2.2.2.size)
     go_wp2_with fail
     refine bodyPost_ret (results_flo2 rfl _ _ O _ rfl h7) rfl ?_
     exact ⟨⟨x, pn, 7, 0⟩, 0, rfl, by rw [HFA.out, HE6.out.1] <;> rfl, fun _ => by rw [HPN.out] <;> (rw [HE0.out] <;> rfl), b7⟩
    | true =>
     cases e7 with
     | false =>
      go_wp2_with (first | (refine wpList_load_flo (.tmp 8) rfl OF (⟨x, pn, 7, 0⟩) rfl Hw4.out.2.2.2.2.1 rfl ?_) | (refine wpList_store_flo (.tmp 6) (.tmp 59) rfl rfl O fz0 (⟨x, pn, 7, 0⟩) rfl rfl Hw4.out.2.2.2.1 rfl ?_))
      intro w7 h7 k7
      have b7 : Below w.heap.size w w7 := Hw4.out.2.2.2.2.2.trans (k7.below (fun q hq => by have e' : q = O := hq; have := HNUM.out; omega) Hw4.out.2.2.2.2.2.size)
      go_wp2_with fail
      refine bodyPost_ret (results_flo2 rfl _ _ O _ rfl h7) rfl ?_
      exact ⟨⟨x, pn, 7, 0⟩, 0, rfl, by rw [HFA.out, HE6.out.1, HE6.out.2] <;> rfl, fun _ => by rw [HPN.out] <;> (rw [HE0.out] <;> rfl), b7⟩
     | true =>
      go_wp2_with (first | (refine wpList_load_flo (.tmp 8) rfl OF (⟨x, pn, 7, 0⟩) rfl Hw4.out.2.2.2.2.1 rfl ?_) | (refine wpList_store_flo (.tmp 6) (.tmp 58) rfl rfl O fz0 (⟨x, pn, 7, 0⟩) rfl rfl Hw4.out.2.2.2.1 rfl ?_))
      intro w7 h7 k7
      have b7 : Below w.heap.size w w7 := Hw4.out.2.2.2.2.2.trans (k7.below (fun q hq => by have e' : q = O := hq; have := HNUM.out; omega) Hw4.out.2.2.2.2.2.size)
      go_wp2_with fail
      refine bodyPost_ret (results_flo2 rfl _ _ O _ rfl h7) rfl ?_
      exact ⟨⟨x, pn, 7, 0⟩, 172, rfl, by rw [HFA.out, HE6.out.1, HE6.out.2] <;> rfl, fun h => absurd h (by decide), b7⟩
  | true =>
   cases e2 with
   | true =>
    go_upto_region 6 with fail
    refine MixH.start (fun A => TupAt A D x) (by kernel_rfl) ?_
    obtain ⟨wA, hwA⟩ : ∃ wA, wA = w0.drew := ⟨_, rfl⟩
    have bdr := zDr hwA
    have HA : Hid (RvtAt wA B c a n m ∧ TupAt wA D x ∧ FL wA base (.slice a n m) L ∧ FloAt wA O fz0 ∧ FloAt wA OF (⟨x, 0, 7, 0⟩) ∧ Below w.heap.size w wA) := ⟨H0.out.1.below bdr, H0.out.2.1.below bdr, H0.out.2.2.1.below bdr, H0.out.2.2.2.1.below bdr, H0.out.2.2.2.2.1.below bdr, bthen H0.out.2.2.2.2.2 bdr⟩
    have hS : TupAt wA D x := HA.out.2.1
    rw [← hwA]
    clear hwA bdr
    refine MixH.tks [true, false, true, true] 14 hS (fun K hK => ?_)
    simp only [Mix.pick]
    repeat (go_big_quiet_step (fail))
    refine wpQuiet_nil (hK _ ?_)
    clear hK K
    refine MixH.tk 13 1 rfl (.int .i64 x.pr) (yields_int (.tmp 19) rfl ⟨D, 0, none⟩ (.int .i64 x.pr) rfl rfl (fun A hA => hA.c0)) hS (fun a' ha => ?_)
    simp only [zP1, zP2, zP3, zP4] at ha
    subst ha
    refine MixH.tk 12 4 rfl (.int .i64 x.sV) (yields_int (.tmp 22) rfl ⟨D, 1, none⟩ (.int .i64 x.sV) rfl rfl (fun A hA => hA.c1)) hS (fun a' ha => ?_)
    simp only [zP1, zP2, zP3, zP4] at ha
    subst ha
    refine MixH.one [false, false, false, false, false, true] 11 5 _ rfl rfl (by kernel_rfl) (by kernel_rfl) (fun K hK => ?_)
    simp only [Mix.pick]
    go_wp2_with fail
    refine Calls.mono (echoR_any x.sV wA) ?_
    rintro e5 _ ⟨rfl, rfl⟩
    go_wp2_with fail
    refine ⟨rfl, hK _ _ hS ?_⟩
    clear hK K
    refine MixH.tks [false, false, false, false, false, false, true, true, true] 8 hS (fun K hK => ?_)
    simp only [Mix.pick]
    repeat (go_big_quiet_step (fail))
    refine wpQuiet_nil (hK _ ?_)
    clear hK K
    refine MixH.tk 7 9 rfl (.int .i64 x.dp) (yields_int (.tmp 27) rfl ⟨D, 36, none⟩ (.int .i64 x.dp) rfl rfl (fun A hA => hA.c36)) hS (fun a' ha => ?_)
    simp only [zP1, zP2, zP3, zP4] at ha
    subst ha
    refine MixH.tks [false, false, false, false, false, false, false, false, false, false, true, true, true] 4 hS (fun K hK => ?_)
    simp only [Mix.pick]
    repeat (go_big_quiet_step (fail))
    refine wpQuiet_nil (hK _ ?_)
    clear hK K
    refine MixH.tk 3 13 rfl (undef) (.inr ⟨rfl, rfl⟩) hS (fun a' ha => ?_)
    simp only [zP1, zP2, zP3, zP4] at ha
    subst ha
    refine MixH.tks [false, false, false, false, false, false, false, false, false, false, false, false, false, false, true, true, true] 0 hS (fun K hK => ?_)
    simp only [Mix.pick]
    repeat (go_big_quiet_step (fail))
    refine wpQuiet_nil (hK _ ?_)
    clear hK K
    refine MixH.done (by kernel_rfl) ?_
    clear hS
    go_wp2_with (first | (refine wpList_load_flo (.tmp 8) rfl OF (⟨x, 0, 7, 0⟩) rfl HA.out.2.2.2.2.1 rfl ?_) | (refine wpList_store_flo (.tmp 6) (.tmp 36) rfl rfl O fz0 (⟨x, 0, 7, 0⟩) rfl rfl HA.out.2.2.2.1 rfl ?_))
    intro w7 h7 k7
    have b7 : Below w.heap.size w w7 := HA.out.2.2.2.2.2.trans (k7.below (fun q hq => by have e' : q = O := hq; have := HNUM.out; omega) HA.out.2.2.2.2.2.size)
    go_wp2_with fail
    refine bodyPost_ret (results_flo2 rfl _ _ O _ rfl h7) rfl ?_
    exact ⟨⟨x, 0, 7, 0⟩, 173, rfl, by unfold rbE; rw [HQ1.out, HE.out.1, HE.out.2.1]; rfl, fun h => absurd h (by decide), b7⟩
   | false =>
    cases e3 with
    | true =>
     go_upto_region 6 with fail
     refine MixH.start (fun A => TupAt A D x) (by kernel_rfl) ?_
     obtain ⟨wA, hwA⟩ : ∃ wA, wA = w0.drew := ⟨_, rfl⟩
     have bdr := zDr hwA
     have HA : Hid (RvtAt wA B c a n m ∧ TupAt wA D x ∧ FL wA base (.slice a n m) L ∧ FloAt wA O fz0 ∧ FloAt wA OF (⟨x, 0, 7, 0⟩) ∧ Below w.heap.size w wA) := ⟨H0.out.1.below bdr, H0.out.2.1.below bdr, H0.out.2.2.1.below bdr, H0.out.2.2.2.1.below bdr, H0.out.2.2.2.2.1.below bdr, bthen H0.out.2.2.2.2.2 bdr⟩
     have hS : TupAt wA D x := HA.out.2.1
     rw [← hwA]
     clear hwA bdr
     refine MixH.tks [true, false, true, true] 14 hS (fun K hK => ?_)
     simp only [Mix.pick]
     repeat (go_big_quiet_step (fail))
     refine wpQuiet_nil (hK _ ?_)
     clear hK K
     refine MixH.tk 13 1 rfl (.int .i64 x.pr) (yields_int (.tmp 19) rfl ⟨D, 0, none⟩ (.int .i64 x.pr) rfl rfl (fun A hA => hA.c0)) hS (fun a' ha => ?_)
     simp only [zP1, zP2, zP3, zP4] at ha
     subst ha
     refine MixH.tk 12 4 rfl (.int .i64 x.sV) (yields_int (.tmp 22) rfl ⟨D, 1, none⟩ (.int .i64 x.sV) rfl rfl (fun A hA => hA.c1)) hS (fun a' ha => ?_)
     simp only [zP1, zP2, zP3, zP4] at ha
     subst ha
     refine MixH.one [false, false, false, false, false, true] 11 5 _ rfl rfl (by kernel_rfl) (by kernel_rfl) (fun K hK => ?_)
     simp only [Mix.pick]
     go_wp2_with fail
     refine Calls.mono (echoR_any x.sV wA) ?_
     rintro e5 _ ⟨rfl, rfl⟩
     go_wp2_with fail
     refine ⟨rfl, hK _ _ hS ?_⟩
     clear hK K
     refine MixH.tks [false, false, false, false, false, false, true, true, true] 8 hS (fun K hK => ?_)
     simp only [Mix.pick]
     repeat (go_big_quiet_step (fail))
     refine wpQuiet_nil (hK _ ?_)
     clear hK K
     refine MixH.tk 7 9 rfl (.int .i64 x.dp) (yields_int (.tmp 27) rfl ⟨D, 36, none⟩ (.int .i64 x.dp) rfl rfl (fun A hA => hA.c36)) hS (fun a' ha => ?_)
     simp only [zP1, zP2, zP3, zP4] at ha
     subst ha
     refine MixH.tks [false, false, false, false, false, false, false, false, false, false, true, true, true] 4 hS (fun K hK => ?_)
     simp only [Mix.pick]
     repeat (go_big_quiet_step (fail))
     refine wpQuiet_nil (hK _ ?_)
     clear hK K
     refine MixH.tk 3 13 rfl (.int .i64 x.sp) (yields_int (.tmp 31) rfl ⟨D, 35, none⟩ (.int .i64 x.sp) rfl rfl (fun A hA => hA.c35)) hS (fun a' ha => ?_)
     simp only [zP1, zP2, zP3, zP4] at ha
     subst ha
     refine MixH.tks [false, false, false, false, false, false, false, false, false, false, false, false, false, false, true, true, true] 0 hS (fun K hK => ?_)
     simp only [Mix.pick]
     repeat (go_big_quiet_step (fail))
     refine wpQuiet_nil (hK _ ?_)
     clear hK K
     refine MixH.done (by kernel_rfl) ?_
     clear hS
     go_wp2_with (first | (refine wpList_load_flo (.tmp 8) rfl OF (⟨x, 0, 7, 0⟩) rfl HA.out.2.2.2.2.1 rfl ?_) | (refine wpList_store_flo (.tmp 6) (.tmp 36) rfl rfl O fz0 (⟨x, 0, 7, 0⟩) rfl rfl HA.out.2.2.2.1 rfl ?_))
     intro w7 h7 k7
     have b7 : Below w.heap.size w w7 := HA.out.2.2.2.2.2.trans (k7.below (fun q hq => by have e' : q = O := hq; have := HNUM.out; omega) HA.out.2.2.2.2.2.size)
     go_wp2_with fail
     refine bodyPost_ret (results_flo2 rfl _ _ O _ rfl h7) rfl ?_
     exact ⟨⟨x, 0, 7, 0⟩, 173, rfl, by unfold rbE; rw [HQ1.out, HE.out.1, HE.out.2.1, HE.out.2.2]; rfl, fun h => absurd h (by decide), b7⟩
    | false =>
     go_upto_region 6 with fail
     refine MixH.start (fun A => TupAt A D x) (by kernel_rfl) ?_
     obtain ⟨wA, hwA⟩ : ∃ wA, wA = w0.drew := ⟨_, rfl⟩
     have bdr := zDr hwA
     have HA : Hid (RvtAt wA B c a n m ∧ TupAt wA D x ∧ FL wA base (.slice a n m) L ∧ FloAt wA O fz0 ∧ FloAt wA OF (⟨x, 0, 7, 0⟩) ∧ Below w.heap.size w wA) := ⟨H0.out.1.below bdr, H0.out.2.1.below bdr, H0.out.2.2.1.below bdr, H0.out.2.2.2.1.below bdr, H0.out.2.2.2.2.1.below bdr, bthen H0.out.2.2.2.2.2 bdr⟩
     have hS : TupAt wA D x := HA.out.2.1
     rw [← hwA]
     clear hwA bdr
     refine MixH.tks [true, false, true, true] 14 hS (fun K hK => ?_)
     simp only [Mix.pick]
     repeat (go_big_quiet_step (fail))
     refine wpQuiet_nil (hK _ ?_)
     clear hK K
     refine MixH.tk 13 1 rfl (.int .i64 x.pr) (yields_int (.tmp 19) rfl ⟨D, 0, none⟩ (.int .i64 x.pr) rfl rfl (fun A hA => hA.c0)) hS (fun a' ha => ?_)
     simp only [zP1, zP2, zP3, zP4] at ha
     subst ha
     refine MixH.tk 12 4 rfl (.int .i64 x.sV) (yields_int (.tmp 22) rfl ⟨D, 1, none⟩ (.int .i64 x.sV) rfl rfl (fun A hA => hA.c1)) hS (fun a' ha => ?_)
     simp only [zP1, zP2, zP3, zP4] at ha
     subst ha
     refine MixH.one [false, false, false, false, false, true] 11 5 _ rfl rfl (by kernel_rfl) (by kernel_rfl) (fun K hK => ?_)
     simp only [Mix.pick]
     go_wp2_with fail
     refine Calls.mono (echoR_any x.sV wA) ?_
     rintro e5 _ ⟨rfl, rfl⟩
     go_wp2_with fail
     refine ⟨rfl, hK _ _ hS ?_⟩
     clear hK K
     refine MixH.tks [false, false, false, false, false, false, true, true, true] 8 hS (fun K hK => ?_)
     simp only [Mix.pick]
     repeat (go_big_quiet_step (fail))
     refine wpQuiet_nil (hK _ ?_)
     clear hK K
     refine MixH.tk 7 9 rfl (.int .i64 x.dp) (yields_int (.tmp 27) rfl ⟨D, 36, none⟩ (.int .i64 x.dp) rfl rfl (fun A hA => hA.c36)) hS (fun a' ha => ?_)
     simp only [zP1, zP2, zP3, zP4] at ha
     subst ha
     refine MixH.tks [false, false, false, false, false, false, false, false, false, false, true, true, true] 4 hS (fun K hK => ?_)
     simp only [Mix.pick]
     repeat (go_big_quiet_step (fail))
     refine wpQuiet_nil (hK _ ?_)
     clear hK K
     refine MixH.tk 3 13 rfl (.int .i64 x.sp) (yields_int (.tmp 31) rfl ⟨D, 35, none⟩ (.int .i64 x.sp) rfl rfl (fun A hA => hA.c35)) hS (fun a' ha => ?_)
     simp only [zP1, zP2, zP3, zP4] at ha
     subst ha
     refine MixH.tks [false, false, false, false, false, false, false, false, false, false, false, false, false, false, true, true, true] 0 hS (fun K hK => ?_)
     simp only [Mix.pick]
     repeat (go_big_quiet_step (fail))
     refine wpQuiet_nil (hK _ ?_)
     clear hK K
     refine MixH.done (by kernel_rfl) ?_
     clear hS
     go_upto_region 8 with fail
     have c25 : wA.cell? ⟨B, 25, none⟩ = some (.slice a n m) := HA.out.1.cell 25
     have c0 : wA.cell? ⟨B, 0, none⟩ = some (.int .i64 c.mx) := HA.out.1.cell 0
     cases e4 with
     | true =>
      have HE5' : Hid (c.mx ≤ (L.length : Int)) := HE4.out.1 rfl
      go_wp2_with (first | (refine wpList_load_flo (.tmp 8) rfl OF (⟨x, 0, 7, 0⟩) rfl HA.out.2.2.2.2.1 rfl ?_) | (refine wpList_store_flo (.tmp 6) (.tmp 44) rfl rfl O fz0 (⟨x, 0, 7, 0⟩) rfl rfl HA.out.2.2.2.1 rfl ?_))
      intro w7 h7 k7
      have b7 : Below w.heap.size w w7 := HA.out.2.2.2.2.2.trans (k7.below (fun q hq => by have e' : q = O := hq; have := HNUM.out; omega) HA.out.2.2.2.2.2.size)
      go_wp2_with fail
      refine bodyPost_ret (results_flo2 rfl _ _ O _ rfl h7) rfl ?_
      exact ⟨⟨x, 0, 7, 0⟩, 171, rfl, by unfold rbE; rw [HQ1.out, HE.out.1, HE.out.2.1, HE.out.2.2, Bool.false_or, Bool.true_and, if_neg (by decide), if_neg (by decide), if_pos HE5'.out], fun h => absurd h (by decide), b7⟩
     | false =>
      have HE5' : Hid ((L.length : Int) < c.mx) := HE4.out.2 rfl
      have QP : Hid _ := portR_any base c a n m L x wA HA.out.2.2.1 HH.out.2.1 HH.out.2.2.1 HH.out.2.2.2
      have HFA : Hid (rbE c L x fl = if (x.sV == 4 && prt c L x == 0) = true then 172 else 0) := by show _ = _; unfold rbE; rw [HQ1.out, HE.out.1, HE.out.2.1, HE.out.2.2, Bool.false_or, Bool.true_and, if_neg (by decide), if_neg (by decide), if_neg (by have := HE5'.out; omega)]
      go_upto_region 10 with fail
      go_wp2_with (first | (refine wpList_load_rvt (.tmp 3) rfl B c a n m rfl HA.out.1 rfl ?_) | (refine wpList_load_tup (.tmp 4) rfl D x rfl HA.out.2.1 rfl ?_))
      refine Calls.mono QP.out ?_
      rintro e9 w3 ⟨rfl, b3⟩
      have HP : Hid (RvtAt w3 B c a n m ∧ TupAt w3 D x ∧ FL w3 base (.slice a n m) L ∧ FloAt w3 O fz0 ∧ FloAt w3 OF (⟨x, 0, 7, 0⟩) ∧ Below w.heap.size w w3) := ⟨HA.out.1.below b3, HA.out.2.1.below b3, HA.out.2.2.1.below b3, HA.out.2.2.2.1.below b3, HA.out.2.2.2.2.1.below b3, bthen HA.out.2.2.2.2.2 b3⟩
      have c37 := HP.out.2.2.2.2.1.c37
      have f37 := HP.out.2.2.2.2.1.fz 37
      clear b3 QP
      obtain ⟨pn, hpn⟩ : ∃ v, prt c L x = v := ⟨_, rfl⟩
      have HPN : Hid (prt c L x = pn) := hpn
      rw [hpn]
      clear hpn
      go_upto_region 11 with fail
      obtain ⟨w4, hnew⟩ : ∃ y, w3.setCell ⟨OF, 37, none⟩ (.int .i64 pn) = y := ⟨_, rfl⟩
      have Hw4 : Hid (RvtAt w4 B c a n m ∧ TupAt w4 D x ∧ FL w4 base (.slice a n m) L ∧ FloAt w4 O fz0 ∧ FloAt w4 OF (⟨x, pn, 7, 0⟩) ∧ Below w.heap.size w w4) := by
       obtain ⟨q1, q2, q3, q4⟩ := HNUM.out
       have h1 := FloAt.set (x' := ⟨x, pn, 7, 0⟩) HP.out.2.2.2.2.1 37 (.int .i64 pn) (by rfl)
       have k3 := (Ch.refl (fun q => q = OF) w3).set ⟨OF, 37, none⟩ (.int .i64 pn) rfl
       rw [hnew] at h1 k3
       have hfl : ∀ q, (Value.slice a n m).ownBlock = some q → q ≠ OF := fun q hq e => by have := fl_lt HH.out.1 hq; omega
       exact ⟨HP.out.1.ch k3 (by omega), HP.out.2.1.ch k3 (by omega), HP.out.2.2.1.ch k3 (fun q hq e => hfl q hq e), HP.out.2.2.2.1.ch k3 (by omega), h1, HP.out.2.2.2.2.2.trans (k3.below (fun q hq => by have e' : q = OF := hq; omega) HP.out.2.2.2.2.2.size)⟩
      rw [hnew]
      clear hnew
      clear c37 f37
      have c37 : w4.cell? ⟨OF, 37, none⟩ = some (.int .i64 pn) := Hw4.out.2.2.2.2.1.c37
      have d1' : w4.cell? ⟨D, 1, none⟩ = some (.int .i64 x.sV) := Hw4.out.2.1.c1
      obtain ⟨e6, h6⟩ : ∃ b, (x.sV == 4) = b := ⟨_, rfl⟩
      obtain ⟨e7, h7⟩ : ∃ b, (pn == 0) = b := ⟨_, rfl⟩
      have HE6 : Hid ((x.sV == 4) = e6 ∧ (prt c L x == 0) = e7) := ⟨h6, by rw [HPN.out]; exact h7⟩
      cases e6 with
      | false =>
       go_wp2_with (first | (refine wpList_load_flo (.tmp 8) rfl OF (⟨x, pn, 7, 0⟩) rfl Hw4.out.2.2.2.2.1 rfl ?_) | (refine wpList_store_flo (.tmp 6) (.tmp 59) rfl rfl O fz0 (⟨x, pn, 7, 0⟩) rfl rfl Hw4.out.2.2.2.1 rfl ?_))
       intro w7 h7 k7
       have b7 : Below w.heap.size w w7 := Hw4.out.2.2.2.2.2.trans (k7.below (fun q hq => by have e' : q = O := hq; have := HNUM.out; omega) Hw4.out.2.2.2.2.2.size)
       go_wp2_with fail
       refine bodyPost_ret (results_flo2 rfl _ _ O _ rfl h7) rfl ?_
       exact ⟨⟨x, pn, 7, 0⟩, 0, rfl, by rw [HFA.out, HE6.out.1] <;> rfl, fun _ => by rw [HPN.out] <;> (rw [HE0.out] <;> rfl), b7⟩
      | true =>
       cases e7 with
       | false =>
        go_wp2_with (first | (refine wpList_load_flo (.tmp 8) rfl OF (⟨x, pn, 7, 0⟩) rfl Hw4.out.2.2.2.2.1 rfl ?_) | (refine wpList_store_flo (.tmp 6) (.tmp 59) rfl rfl O fz0 (⟨x, pn, 7, 0⟩) rfl rfl Hw4.out.2.2.2.1 rfl ?_))
        intro w7 h7 k7
        have b7 : Below w.heap.size w w7 := Hw4.out.2.2.2.2.2.trans (k7.below (fun q hq => by have e' : q = O := hq; have := HNUM.out; omega) Hw4.out.2.2.2.2.2.size)
        go_wp2_with fail
        refine bodyPost_ret (results_flo2 rfl _ _ O _ rfl h7) rfl ?_
        exact ⟨⟨x, pn, 7, 0⟩, 0, rfl, by rw [HFA.out, HE6.out.1, HE6.out.2] <;> rfl, fun _ => by rw [HPN.out] <;> (rw [HE0.out] <;> rfl), b7⟩
       | true =>
        go_wp2_with (first | (refine wpList_load_flo (.tmp 8) rfl OF (⟨x, pn, 7, 0⟩) rfl Hw4.out.2.2.2.2.1 rfl ?_) | (refine wpList_store_flo (.tmp 6) (.tmp 58) rfl rfl O fz0 (⟨x, pn, 7, 0⟩) rfl rfl Hw4.out.2.2.2.1 rfl ?_))
        intro w7 h7 k7
        have b7 : Below w.heap.size w w7 := Hw4.out.2.2.2.2.2.trans (k7.below (fun q hq => by have e' : q = O := hq; have := HNUM.out; omega) Hw4.out.2.2.2.2.2.size)
        go_wp2_with fail
        refine bodyPost_ret (results_flo2 rfl _ _ O _ rfl h7) rfl ?_
        exact ⟨⟨x, pn, 7, 0⟩, 172, rfl, by rw [HFA.out, HE6.out.1, HE6.out.2] <;> rfl, fun h => absurd h (by decide), b7⟩
end Go.Proofs.YtclpeepnngegaaaGreatDoor
