/-
  RFi RFj: lemmas of the proof of FlowPlays, and walks through the functions that it calls.
-/
import Derived.Test.YtclpeepnngegaaaGreatDoorP00
import Derived.Test.YtclpeepnngegaaaGreatDoorP29
namespace Go.Proofs.YtclpeepnngegaaaGreatDoor
open Go.RowKit Go.Maps
set_option maxHeartbeats 1600000 in
set_option maxRecDepth 100000 in
theorem portR_any (base : Nat) (c : CF) (a : Option Addr) (n m : Nat) (L : List FN) (x : TU) (w : World) (h : FL w base (.slice a n m) L) (hn : L.length = n) (hL : n ≤ 4200) (hc : -1000000 ≤ c.lo ∧ c.hi ≤ 1000000) : Calls Tryz.prog 57 #[.agg (rvC c a n m), .agg (tuC x)] w fun r w' => r = .returned (.int .i64 (prt c L x)) ∧ Below w.heap.size w w' := by
 have HH : Hid (FL w base (.slice a n m) L ∧ L.length = n ∧ n ≤ 4200) := ⟨h, hn, hL⟩
 have HCF : Hid (-1000000 ≤ c.lo ∧ c.hi ≤ 1000000) := hc
 clear h hn hL hc
 obtain ⟨Wb, B, HSZX, HOX, HLX, HWX, hb⟩ := zBx w (rvC c a n m) 36
 have HBX : Hid (RvtAt Wb B c a n m) := hb
 obtain ⟨CX, hC⟩ : ∃ C, C = rvC c a n m := ⟨_, rfl⟩
 rw [← hC] at HWX ⊢
 clear hb hC
 obtain ⟨Wd, D, HSZZ, HOZ, HLZ, HWZ, hb⟩ := zBx Wb (tuC x) 38
 have HBZ : Hid (TupAt Wd D x) := hb
 obtain ⟨CZ, hC⟩ : ∃ C, C = tuC x := ⟨_, rfl⟩
 rw [← hC] at HWZ ⊢
 clear hb hC
 have H0 : Hid (RvtAt Wd B c a n m ∧ TupAt Wd D x ∧ FL Wd base (.slice a n m) L ∧ Below w.heap.size w Wd) := ⟨HBX.out.below HLZ.out, HBZ.out, HH.out.1.below (bthen HLX.out HLZ.out), bthen HLX.out HLZ.out⟩
 have d0 : Wd.cell? ⟨D, 0, none⟩ = some (.int .i64 x.pr) := H0.out.2.1.c0
 have d1 : Wd.cell? ⟨D, 1, none⟩ = some (.int .i64 x.sV) := H0.out.2.1.c1
 have d35 : Wd.cell? ⟨D, 35, none⟩ = some (.int .i64 x.sp) := H0.out.2.1.c35
 have c18 : Wd.cell? ⟨B, 18, none⟩ = some (.int .i64 c.lo) := H0.out.1.cell 18
 have c19 : Wd.cell? ⟨B, 19, none⟩ = some (.int .i64 c.hi) := H0.out.1.cell 19
 obtain ⟨sp6, h6⟩ : ∃ b, (x.sV == 6) = b := ⟨_, rfl⟩
 obtain ⟨t1, h1⟩ : ∃ b, decide (c.lo ≤ x.sp) = b := ⟨_, rfl⟩
 obtain ⟨t2, h2⟩ : ∃ b, decide (x.sp ≤ c.hi) = b := ⟨_, rfl⟩
 have HSV : Hid ((x.sV == 6) = sp6 ∧ decide (c.lo ≤ x.sp) = t1 ∧ decide (x.sp ≤ c.hi) = t2) := ⟨h6, h1, h2⟩
 go_enter Tryz.func57, Tryz.ntmps57
 go_upto_region 1 with (first | (rw [HOX.out, HWX.out]) | (rw [HOZ.out, HWZ.out]))
 cases sp6 with
 | true =>
  go_wp2_with fail
  go_ret
  exact ⟨by unfold prt; rw [HSV.out.1]; rfl, H0.out.2.2.2⟩
 | false =>
  go_upto_region 3 with fail
  cases t1 with
  | false =>
   go_upto_region 5 with (refine wpList_load_rvt (.tmp 2) rfl B c a n m rfl H0.out.1 rfl ?_)
   have HN : Hid (True ∧ prt c L x = prF L x.pr c.lo (c.hi - c.lo + 1).toNat) := ⟨trivial, by unfold prt inR; rw [HSV.out.1, HSV.out.2.1]; rfl⟩
   have HL0 : Hid (prF L x.pr c.lo (c.hi - c.lo + 1).toNat = prt c L x) := HN.out.2.symm
   go_wp2_with fail
   go_loopw [5] (fun ix wr => ∃ p : Int, ix = .int .i64 p ∧ c.lo ≤ p ∧ Hid ((RvtAt wr B c a n m ∧ TupAt wr D x ∧ FL wr base (.slice a n m) L ∧ Below w.heap.size w wr) ∧ prF L x.pr p (c.hi - p + 1).toNat = prt c L x)) (fun ix _ => (c.hi + 1 - intOf ix).toNat)
   case atStart => exact ⟨c.lo, rfl, Int.le_refl _, H0.out, HL0.out⟩
   case round =>
    obtain ⟨p, rfl, hp, HI⟩ := hrel
    have c19 : wr.cell? ⟨B, 19, none⟩ = some (.int .i64 c.hi) := HI.out.1.1.cell 19
    have d0 : wr.cell? ⟨D, 0, none⟩ = some (.int .i64 x.pr) := HI.out.1.2.1.c0
    by_cases hin : p ≤ c.hi
    · have p1 : decide (p ≤ c.hi) = true := decide_eq_true hin
      have wi : IntKind.i64.wrap (p + 1) = p + 1 := i64_k _ (by have := HCF.out; omega) (by have := HCF.out; omega)
      have HPB : Hid (c.lo ≤ p ∧ p ≤ c.hi) := ⟨hp, hin⟩
      obtain ⟨b, hb⟩ : ∃ b, tkn2 L x.pr p = b := ⟨_, rfl⟩
      have HB : Hid (tkn2 L x.pr p = b) := hb
      have hstep : prF L x.pr p (c.hi - p + 1).toNat = if b = true then prF L x.pr (p + 1) (c.hi - (p + 1) + 1).toNat else p := by
       rw [show (c.hi - p + 1).toNat = (c.hi - (p + 1) + 1).toNat + 1 by omega]
       rw [← hb]
       rfl
      have HSTP : Hid (prF L x.pr p (c.hi - p + 1).toNat = if b = true then prF L x.pr (p + 1) (c.hi - (p + 1) + 1).toNat else p) := hstep
      have qt := takenR_any base c a n m L x.pr p wr HI.out.1.2.2.1 HH.out.2.1 HH.out.2.2
      rw [hb] at qt
      have QT : Hid _ := qt
      clear hp hin hb hstep qt
      go_wp2_with (refine wpList_load_rvt (.tmp 2) rfl B c a n m rfl HI.out.1.1 rfl ?_)
      refine Calls.mono QT.out ?_
      rintro e1 w8 ⟨rfl, b8⟩
      have H8 : Hid (RvtAt w8 B c a n m ∧ TupAt w8 D x ∧ FL w8 base (.slice a n m) L ∧ Below w.heap.size w w8) := ⟨HI.out.1.1.below b8, HI.out.1.2.1.below b8, HI.out.1.2.2.1.below b8, bthen HI.out.1.2.2.2 b8⟩
      clear QT b8
      cases b with
      | true =>
       go_wp2_with fail
       go_roundw
       case rel => exact ⟨p + 1, by go_num, by have := HPB.out; omega, H8.out, by have h1 := HSTP.out; rw [if_pos (by decide)] at h1; rw [← h1]; exact HI.out.2⟩
       case measure => have := HPB.out; simp [intOf]; omega
      | false =>
       go_wp2_with fail
       go_ret
       exact ⟨by have h1 := HSTP.out; rw [if_neg (by decide)] at h1; rw [← HI.out.2, h1]; rfl, H8.out.2.2.2⟩
    · have p1 : decide (p ≤ c.hi) = false := decide_eq_false hin
      have HZ : Hid (prt c L x = 0) := by
       show _ = _
       rw [← HI.out.2, show (c.hi - p + 1).toNat = 0 by omega]
       rfl
      clear hp hin
      go_wp2_with fail
      go_ret
      exact ⟨by rw [HZ.out]; rfl, HI.out.1.2.2.2⟩
  | true =>
   cases t2 with
   | false =>
    go_upto_region 5 with (refine wpList_load_rvt (.tmp 2) rfl B c a n m rfl H0.out.1 rfl ?_)
    have HN : Hid (True ∧ prt c L x = prF L x.pr c.lo (c.hi - c.lo + 1).toNat) := ⟨trivial, by unfold prt inR; rw [HSV.out.1, HSV.out.2.1, HSV.out.2.2]; rfl⟩
    have HL0 : Hid (prF L x.pr c.lo (c.hi - c.lo + 1).toNat = prt c L x) := HN.out.2.symm
    go_wp2_with fail
    go_loopw [5] (fun ix wr => ∃ p : Int, ix = .int .i64 p ∧ c.lo ≤ p ∧ Hid ((RvtAt wr B c a n m ∧ TupAt wr D x ∧ FL wr base (.slice a n m) L ∧ Below w.heap.size w wr) ∧ prF L x.pr p (c.hi - p + 1).toNat = prt c L x)) (fun ix _ => (c.hi + 1 - intOf ix).toNat)
    case atStart => exact ⟨c.lo, rfl, Int.le_refl _, H0.out, HL0.out⟩
    case round =>
     obtain ⟨p, rfl, hp, HI⟩ := hrel
     have c19 : wr.cell? ⟨B, 19, none⟩ = some (.int .i64 c.hi) := HI.out.1.1.cell 19
     have d0 : wr.cell? ⟨D, 0, none⟩ = some (.int .i64 x.pr) := HI.out.1.2.1.c0
     by_cases hin : p ≤ c.hi
     · have p1 : decide (p ≤ c.hi) = true := decide_eq_true hin
       have wi : IntKind.i64.wrap (p + 1) = p + 1 := i64_k _ (by have := HCF.out; omega) (by have := HCF.out; omega)
       have HPB : Hid (c.lo ≤ p ∧ p ≤ c.hi) := ⟨hp, hin⟩
       obtain ⟨b, hb⟩ : ∃ b, tkn2 L x.pr p = b := ⟨_, rfl⟩
       have HB : Hid (tkn2 L x.pr p = b) := hb
       have hstep : prF L x.pr p (c.hi - p + 1).toNat = if b = true then prF L x.pr (p + 1) (c.hi - (p + 1) + 1).toNat else p := by
        rw [show (c.hi - p + 1).toNat = (c.hi - (p + 1) + 1).toNat + 1 by omega]
        rw [← hb]
        rfl
       have HSTP : Hid (prF L x.pr p (c.hi - p + 1).toNat = if b = true then prF L x.pr (p + 1) (c.hi - (p + 1) + 1).toNat else p) := hstep
       have qt := takenR_any base c a n m L x.pr p wr HI.out.1.2.2.1 HH.out.2.1 HH.out.2.2
       rw [hb] at qt
       have QT : Hid _ := qt
       clear hp hin hb hstep qt
       go_wp2_with (refine wpList_load_rvt (.tmp 2) rfl B c a n m rfl HI.out.1.1 rfl ?_)
       refine Calls.mono QT.out ?_
       rintro e1 w8 ⟨rfl, b8⟩
       have H8 : Hid (RvtAt w8 B c a n m ∧ TupAt w8 D x ∧ FL w8 base (.slice a n m) L ∧ Below w.heap.size w w8) := ⟨HI.out.1.1.below b8, HI.out.1.2.1.below b8, HI.out.1.2.2.1.below b8, bthen HI.out.1.2.2.2 b8⟩
       clear QT b8
       cases b with
       | true =>
        go_wp2_with fail
        go_roundw
        case rel => exact ⟨p + 1, by go_num, by have := HPB.out; omega, H8.out, by have h1 := HSTP.out; rw [if_pos (by decide)] at h1; rw [← h1]; exact HI.out.2⟩
        case measure => have := HPB.out; simp [intOf]; omega
       | false =>
        go_wp2_with fail
        go_ret
        exact ⟨by have h1 := HSTP.out; rw [if_neg (by decide)] at h1; rw [← HI.out.2, h1]; rfl, H8.out.2.2.2⟩
     · have p1 : decide (p ≤ c.hi) = false := decide_eq_false hin
       have HZ : Hid (prt c L x = 0) := by
        show _ = _
        rw [← HI.out.2, show (c.hi - p + 1).toNat = 0 by omega]
        rfl
       clear hp hin
       go_wp2_with fail
       go_ret
       exact ⟨by rw [HZ.out]; rfl, HI.out.1.2.2.2⟩
   | true =>
    obtain ⟨bt, hbt⟩ : ∃ b, tkn2 L x.pr x.sp = b := ⟨_, rfl⟩
    have qs := takenR_any base c a n m L x.pr x.sp Wd H0.out.2.2.1 HH.out.2.1 HH.out.2.2
    rw [hbt] at qs
    have QS : Hid _ := qs
    have HBT : Hid (tkn2 L x.pr x.sp = bt) := hbt
    clear qs hbt
    go_wp2_with (refine wpList_load_rvt (.tmp 2) rfl B c a n m rfl H0.out.1 rfl ?_)
    refine Calls.mono QS.out ?_
    rintro e2 w1 ⟨rfl, b1⟩
    have H1 : Hid (RvtAt w1 B c a n m ∧ TupAt w1 D x ∧ FL w1 base (.slice a n m) L ∧ Below w.heap.size w w1) := ⟨H0.out.1.below b1, H0.out.2.1.below b1, H0.out.2.2.1.below b1, bthen H0.out.2.2.2 b1⟩
    have d35' : w1.cell? ⟨D, 35, none⟩ = some (.int .i64 x.sp) := H1.out.2.1.c35
    have c18' : w1.cell? ⟨B, 18, none⟩ = some (.int .i64 c.lo) := H1.out.1.cell 18
    clear b1 QS
    cases bt with
    | false =>
     go_wp2_with fail
     go_ret
     exact ⟨by unfold prt inR; rw [HSV.out.1, HSV.out.2.1, HSV.out.2.2, HBT.out]; rfl, H1.out.2.2.2⟩
    | true =>
     have HN : Hid (True ∧ prt c L x = prF L x.pr c.lo (c.hi - c.lo + 1).toNat) := ⟨trivial, by unfold prt inR; rw [HSV.out.1, HSV.out.2.1, HSV.out.2.2, HBT.out]; rfl⟩
     have HL0 : Hid (prF L x.pr c.lo (c.hi - c.lo + 1).toNat = prt c L x) := HN.out.2.symm
     go_wp2_with fail
     go_loopw [5] (fun ix wr => ∃ p : Int, ix = .int .i64 p ∧ c.lo ≤ p ∧ Hid ((RvtAt wr B c a n m ∧ TupAt wr D x ∧ FL wr base (.slice a n m) L ∧ Below w.heap.size w wr) ∧ prF L x.pr p (c.hi - p + 1).toNat = prt c L x)) (fun ix _ => (c.hi + 1 - intOf ix).toNat)
     case atStart => exact ⟨c.lo, rfl, Int.le_refl _, H1.out, HL0.out⟩
     case round =>
      obtain ⟨p, rfl, hp, HI⟩ := hrel
      have c19 : wr.cell? ⟨B, 19, none⟩ = some (.int .i64 c.hi) := HI.out.1.1.cell 19
      have d0 : wr.cell? ⟨D, 0, none⟩ = some (.int .i64 x.pr) := HI.out.1.2.1.c0
      by_cases hin : p ≤ c.hi
      · have p1 : decide (p ≤ c.hi) = true := decide_eq_true hin
        have wi : IntKind.i64.wrap (p + 1) = p + 1 := i64_k _ (by have := HCF.out; omega) (by have := HCF.out; omega)
        have HPB : Hid (c.lo ≤ p ∧ p ≤ c.hi) := ⟨hp, hin⟩
        obtain ⟨b, hb⟩ : ∃ b, tkn2 L x.pr p = b := ⟨_, rfl⟩
        have HB : Hid (tkn2 L x.pr p = b) := hb
        have hstep : prF L x.pr p (c.hi - p + 1).toNat = if b = true then prF L x.pr (p + 1) (c.hi - (p + 1) + 1).toNat else p := by
         rw [show (c.hi - p + 1).toNat = (c.hi - (p + 1) + 1).toNat + 1 by omega]
         rw [← hb]
         rfl
        have HSTP : Hid (prF L x.pr p (c.hi - p + 1).toNat = if b = true then prF L x.pr (p + 1) (c.hi - (p + 1) + 1).toNat else p) := hstep
        have qt := takenR_any base c a n m L x.pr p wr HI.out.1.2.2.1 HH.out.2.1 HH.out.2.2
        rw [hb] at qt
        have QT : Hid _ := qt
        clear hp hin hb hstep qt
        go_wp2_with (refine wpList_load_rvt (.tmp 2) rfl B c a n m rfl HI.out.1.1 rfl ?_)
        refine Calls.mono QT.out ?_
        rintro e1 w8 ⟨rfl, b8⟩
        have H8 : Hid (RvtAt w8 B c a n m ∧ TupAt w8 D x ∧ FL w8 base (.slice a n m) L ∧ Below w.heap.size w w8) := ⟨HI.out.1.1.below b8, HI.out.1.2.1.below b8, HI.out.1.2.2.1.below b8, bthen HI.out.1.2.2.2 b8⟩
        clear QT b8
        cases b with
        | true =>
         go_wp2_with fail
         go_roundw
         case rel => exact ⟨p + 1, by go_num, by have := HPB.out; omega, H8.out, by have h1 := HSTP.out; rw [if_pos (by decide)] at h1; rw [← h1]; exact HI.out.2⟩
         case measure => have := HPB.out; simp [intOf]; omega
        | false =>
         go_wp2_with fail
         go_ret
         exact ⟨by have h1 := HSTP.out; rw [if_neg (by decide)] at h1; rw [← HI.out.2, h1]; rfl, H8.out.2.2.2⟩
      · have p1 : decide (p ≤ c.hi) = false := decide_eq_false hin
        have HZ : Hid (prt c L x = 0) := by
         show _ = _
         rw [← HI.out.2, show (c.hi - p + 1).toNat = 0 by omega]
         rfl
        clear hp hin
        go_wp2_with fail
        go_ret
        exact ⟨by rw [HZ.out]; rfl, HI.out.1.2.2.2⟩
end Go.Proofs.YtclpeepnngegaaaGreatDoor
namespace Go.Proofs.YtclpeepnngegaaaGreatDoor
open Go.RowKit Go.Maps
theorem results_rvt2 {fn : Func} {p u : Tmp} (h : fn.results = #[.cell p 36, .tmp u]) (tmps : Array Value) (w : World) (O : Nat) (c : CF) (a : Option Addr) (n k : Nat) (hp : tmps.getD p undef = .pointer (some ⟨O, 0, none⟩)) (hb : RvtAt w O c a n k) :
    (results fn tmps).run Tryz.prog w = .ok (.tuple #[.agg (rvC c a n k), tmps.getD u undef]) w := by
  have hp' : tmps[p]?.getD undef = .pointer (some ⟨O, 0, none⟩) := by simpa using hp
  simp [results, h, hp', asAddr, run_loadVar_row w O _ 36 (rvC c a n k) _ _ hb Tryz.underlying36 rfl Tryz.size_rvt]
theorem tkR_next {L : List FN} {i : Nat} {f : FN} (hf : L[i]? = some f) : (L.take (i + 1)).filterMap tkR = (L.take i).filterMap tkR ++ (tkR f).toList := by
 rw [List.take_add_one, hf, List.filterMap_append, Option.toList_some, List.filterMap_cons, List.filterMap_nil]
 cases tkR f <;> rfl
theorem tkR_len (L : List FN) : (L.filterMap tkR).length ≤ L.length := List.length_filterMap_le _ _
theorem tkR_some {f f3 : FN} (h : (0 : Int) < f.le - 1) (h3 : f3 = { f with le := f.le - 1 }) : tkR f = some f3 := by
 unfold tkR
 rw [if_pos h, h3]
theorem tkR_none {f : FN} (h : ¬ (0 : Int) < f.le - 1) : tkR f = none := by
 unfold tkR
 rw [if_neg h]
set_option maxHeartbeats 1600000 in
set_option maxRecDepth 100000 in
theorem tickR_any (base : Nat) (c : CF) (a : Option Addr) (n m : Nat) (L : List FN) (w : World) (h : FL w base (.slice a n m) L) (hn : L.length = n) (hL : n ≤ 4200) (hle : ∀ f ∈ L, 1 ≤ f.le ∧ f.le ≤ 1048576) : Calls Tryz.prog 18 #[.agg (rvC c a n m)] w fun r w' => ∃ a' n' m', r = .returned (.tuple #[.agg (rvC c a' n' m'), .int .i64 ((L.length - (L.filterMap tkR).length : Nat) : Int)]) ∧ FL w' w.heap.size (.slice a' n' m') (L.filterMap tkR) ∧ (L.filterMap tkR).length = n' ∧ Below w.heap.size w w' := by
 have HH : Hid (FL w base (.slice a n m) L ∧ L.length = n ∧ n ≤ 4200 ∧ ∀ f ∈ L, 1 ≤ f.le ∧ f.le ≤ 1048576) := ⟨h, hn, hL, hle⟩
 clear h hn hL hle
 obtain ⟨Wb, B, HSZX, HOX, HLX, HWX, hb⟩ := zBx w (rvC c a n m) 36
 have HBX : Hid (RvtAt Wb B c a n m) := hb
 obtain ⟨CX, hC⟩ : ∃ C, C = rvC c a n m := ⟨_, rfl⟩
 rw [← hC] at HWX ⊢
 clear hb hC
 obtain ⟨Y, O, -, HOY, HLY, HEY, hb⟩ := zBx Wb (rvC cz none 0 0) 36
 have HNY : Hid (RvtAt Y O cz none 0 0) := hb
 clear hb
 have HNUM : Hid (w.heap.size = B ∧ B < O ∧ O < Y.heap.size) := by
  have h1 := HOX.out; have h2 := HSZX.out; have h5 := HOY.out; have h6 := HNY.out.lt
  exact ⟨by omega, by omega, by omega⟩
 have H0 : Hid (RvtAt Y B c a n m ∧ RvtAt Y O cz none 0 0 ∧ FL Y base (.slice a n m) L ∧ Below w.heap.size w Y) := by
  have b2 := bthen HLX.out HLY.out
  exact ⟨HBX.out.below HLY.out, HNY.out, HH.out.1.below b2, b2⟩
 have HL0 : Hid (Below Y.heap.size Y Y ∧ FL Y Y.heap.size (.slice none 0 0) ((L.take 0).filterMap tkR)) := ⟨Below.refl _ _, FL.nil _ _⟩
 go_enter Tryz.func18, Tryz.ntmps18
 go_upto_region 2 with (first | (rw [HOX.out, HWX.out]) | (refine wpList_alloc_rvt rfl rfl ?_; rw [HEY.out, HOY.out]))
 go_wp2_with fail
 go_loopw [4, 5, 6] (fun ov ix _ wr => ∃ i : Nat, ix = .int .i64 (i : Nat) ∧ i ≤ n ∧ Hid (Below Y.heap.size Y wr ∧ FL wr Y.heap.size ov ((L.take i).filterMap tkR))) (fun _ ix _ _ => n - (intOf ix).toNat)
 case atStart => exact ⟨0, rfl, Nat.zero_le _, HL0.out⟩
 case round =>
  clear HL0
  obtain ⟨i, rfl, hi, HI⟩ := hrel
  obtain ⟨lv, hlv⟩ : ∃ v, v = u4 := ⟨_, rfl⟩
  rw [← hlv] at HI ⊢
  clear hlv
  have HW : Hid (RvtAt wr B c a n m ∧ RvtAt wr O cz none 0 0 ∧ FL wr base (.slice a n m) L ∧ Below w.heap.size w wr) := ⟨H0.out.1.below HI.out.1, H0.out.2.1.below HI.out.1, H0.out.2.2.1.below HI.out.1, bthen H0.out.2.2.2 HI.out.1⟩
  by_cases hin : i < n
  · have p1 : decide ((i : Int) < (n : Int)) = true := decide_eq_true (by omega)
    have p2 : decide (i < n) = true := decide_eq_true hin
    have i0 : (0 : Int) ≤ (i : Int) := by omega
    have i1 : (i : Int) < (n : Int) := by omega
    have i2 : ((i : Int)).toNat = i := by omega
    have wi : IntKind.i64.wrap ((i : Int) + 1) = (i : Int) + 1 := i64_k _ (by omega) (by have := HH.out.2.2.1; omega)
    obtain ⟨f, hf⟩ : ∃ f, L[i]? = some f := ⟨_, List.getElem?_eq_getElem (by rw [HH.out.2.1]; exact hin)⟩
    obtain ⟨g, c', hv, _, _, hr⟩ := HW.out.2.2.1.at i f hf
    simp only [Value.slice.injEq] at hv
    obtain ⟨rfl, x1, x2⟩ := hv
    clear x1 x2
    have HR : Hid (wr.rangeAt g (i * 40) (flC f).toList) := hr
    have HIN : Hid (i < n ∧ L[i]? = some f ∧ 1 ≤ f.le ∧ f.le ≤ 1048576) := ⟨hin, hf, HH.out.2.2.2 f (List.mem_of_getElem? hf)⟩
    have HWL : Hid (((L.take i).filterMap tkR).length ≤ 4200) := Nat.le_trans (tkR_len _) (by rw [List.length_take]; have := HH.out.2.1; have := HH.out.2.2.1; omega)
    have c25 : wr.cell? ⟨B, 25, none⟩ = some (.slice (some ⟨g, 0, none⟩) n m) := HW.out.1.cell 25
    clear hf hr hin hi
    obtain ⟨Yf, OF, -, HOF, HLF, HEF, hb⟩ := zBx wr (flC fz0) 72
    have HNF : Hid (FloAt Yf OF fz0) := hb
    clear hb
    go_upto_region 6 with (first | (refine wpList_mid_flo (.tmp 18) rfl g (i * 40) f rfl HR.out rfl ?_) | (refine wpList_alloc_flo rfl rfl ?_; rw [HEF.out, HOF.out]) | (refine wpList_store_flo (.tmp 6) (.tmp 19) rfl rfl OF fz0 f rfl rfl HNF.out rfl ?_; intro w2 h2 k2))
    have HB2 : Hid (FloAt w2 OF f ∧ Below wr.heap.size wr w2) := ⟨h2, HLF.out.trans (k2.below (fun q hq => by have e' : q = OF := hq; have := HOF.out; omega) HLF.out.size)⟩
    have c39 := HB2.out.1.c39
    have f39 := HB2.out.1.fz 39
    have wl : IntKind.i64.wrap (f.le - 1) = f.le - 1 := i64_k _ (by have := HIN.out; omega) (by have := HIN.out; omega)
    clear h2 k2
    go_upto_region 7 with fail
    obtain ⟨f3, hf3⟩ : ∃ g : FN, g = { f with le := f.le - 1 } := ⟨_, rfl⟩
    have HF3 : Hid (f3 = { f with le := f.le - 1 }) := hf3
    obtain ⟨w3, hw3⟩ : ∃ y, w2.setCell ⟨OF, 39, none⟩ (.int .i64 (f.le - 1)) = y := ⟨_, rfl⟩
    have HB3 : Hid (FloAt w3 OF f3 ∧ Below wr.heap.size wr w3) := by
     have h1 := FloAt.set HB2.out.1 39 (.int .i64 (f.le - 1)) (set_le _ _)
     rw [← hf3] at h1
     have k3 := (Ch.refl (fun q => q = OF) w2).set ⟨OF, 39, none⟩ (.int .i64 (f.le - 1)) rfl
     rw [hw3] at h1 k3
     exact ⟨h1, HB2.out.2.trans (k3.below (fun q hq => by have e' : q = OF := hq; have := HOF.out; omega) HB2.out.2.size)⟩
    rw [hw3]
    clear hw3 c39 f39 c25
    obtain ⟨le, hle⟩ : ∃ v, f.le - 1 = v := ⟨_, rfl⟩
    have HLE : Hid (f.le - 1 = le) := hle
    have c39 : w3.cell? ⟨OF, 39, none⟩ = some (.int .i64 le) := by rw [← hle]; have h1 := HB3.out.1.c39; rw [hf3] at h1; exact h1
    clear hf3 hle wl
    have HS3 : Hid (Below Y.heap.size Y w3 ∧ FL w3 Y.heap.size lv ((L.take i).filterMap tkR)) := ⟨bthen HI.out.1 HB3.out.2, HI.out.2.below HB3.out.2⟩
    by_cases h0 : 0 < le
    · have q0 : decide (0 < le) = true := decide_eq_true h0
      have HTK : Hid (tkR f = some f3) := tkR_some (by rw [HLE.out]; exact h0) HF3.out
      clear h0
      obtain ⟨w4, OG, -, HOG, HLG, HEG, hb⟩ := zBx w3 (flC f3) 72
      have HNG : Hid (FloAt w4 OG f3) := hb
      clear hb
      have HS4 : Hid (Below Y.heap.size Y w4 ∧ FL w4 Y.heap.size lv ((L.take i).filterMap tkR)) := ⟨bthen HS3.out.1 HLG.out, HS3.out.2.below HLG.out⟩
      go_wp2_with (first | (refine wpList_load_flo (.tmp 6) rfl OF f3 rfl HB3.out.1 rfl ?_) | (refine wpList_bs1f (.tmp 28) rfl f3 rfl rfl ?_; rw [HEG.out, HOG.out]) | (at_builtin; refine wpList_app1f rfl (.tmp 27) (.tmp 29) rfl Y.heap.size lv ((L.take i).filterMap tkR) rfl HS4.out.2 OG f3 rfl HNG.out (by have := HWL.out; omega) HS4.out.1.size ?_))
      intro v5 w5 g5 b5 _
      have HS5 : Hid (Below Y.heap.size Y w5 ∧ FL w5 Y.heap.size v5 ((L.take (i + 1)).filterMap tkR)) := by
       refine ⟨HS4.out.1.trans ((Ch.ofGrown b5).below (fun q hq => fl_base HS4.out.2 hq) HS4.out.1.size), ?_⟩
       rw [tkR_next HIN.out.2.1, HTK.out]
       exact g5
      clear g5 b5
      go_wp2_with fail
      go_roundw
      case rel => exact ⟨i + 1, by go_num, by have := HIN.out.1; omega, HS5.out⟩
      case measure => have := HIN.out.1; simp [intOf]; omega
    · have q0 : decide (0 < le) = false := decide_eq_false h0
      have HTK : Hid (tkR f = none) := tkR_none (by rw [HLE.out]; exact h0)
      have HS5 : Hid (Below Y.heap.size Y w3 ∧ FL w3 Y.heap.size lv ((L.take (i + 1)).filterMap tkR)) := by
       refine ⟨HS3.out.1, ?_⟩
       rw [tkR_next HIN.out.2.1, HTK.out, Option.toList_none, List.append_nil]
       exact HS3.out.2
      clear h0
      go_wp2_with fail
      go_roundw
      case rel => exact ⟨i + 1, by go_num, by have := HIN.out.1; omega, HS5.out⟩
      case measure => have := HIN.out.1; simp [intOf]; omega
  · have p1 : decide ((i : Int) < (n : Int)) = false := decide_eq_false (by omega)
    have p2 : decide (i < n) = false := decide_eq_false hin
    have h1 := HI.out.2
    rw [List.take_of_length_le (by rw [HH.out.2.1]; omega)] at h1
    obtain ⟨va, vc, hv⟩ := h1.form
    subst hv
    obtain ⟨k, hk⟩ : ∃ k, (L.filterMap tkR).length = k := ⟨_, rfl⟩
    rw [hk] at h1 HI ⊢
    have HF : Hid (FL wr Y.heap.size (.slice va k vc) (L.filterMap tkR)) := h1
    have HK : Hid ((L.filterMap tkR).length = k ∧ k ≤ n) := ⟨hk, by rw [← hk, ← HH.out.2.1]; exact tkR_len L⟩
    have ws : IntKind.i64.wrap ((n : Int) - (k : Int)) = (n : Int) - (k : Int) := i64_k _ (by have := HK.out; have := HH.out.2.2.1; omega) (by have := HK.out; have := HH.out.2.2.1; omega)
    have c25 : wr.cell? ⟨B, 25, none⟩ = some (.slice a n m) := HW.out.1.cell 25
    have f25 : wr.frozen? ⟨B, 25, none⟩ = false := HW.out.1.fz 25
    clear hin hi h1 hk
    go_upto_region 11 with fail
    obtain ⟨w6, hw6⟩ : ∃ y, wr.setCell ⟨B, 25, none⟩ (.slice va k vc) = y := ⟨_, rfl⟩
    have HT : Hid (RvtAt w6 B c va k vc ∧ RvtAt w6 O cz none 0 0 ∧ FL w6 Y.heap.size (.slice va k vc) (L.filterMap tkR) ∧ Below w.heap.size w w6) := by
     obtain ⟨q1, q2, q3⟩ := HNUM.out
     have h1 := RvtAt.set HW.out.1 25 (.slice va k vc) (set_fl _ _ _ _ _ _ _)
     have k6 := (Ch.refl (fun q => q = B) wr).set ⟨B, 25, none⟩ (.slice va k vc) rfl
     rw [hw6] at h1 k6
     exact ⟨h1, HW.out.2.1.ch k6 (by omega), HF.out.ch k6 (fun q hq e => by have e' : q = B := e; have := fl_base HF.out hq; omega), HW.out.2.2.2.trans (k6.below (fun q hq => by have e' : q = B := hq; omega) HW.out.2.2.2.size)⟩
    rw [hw6]
    clear hw6 c25 f25
    go_wp2_with (first | (refine wpList_load_rvt (.tmp 1) rfl B c va k vc rfl HT.out.1 rfl ?_) | (refine wpList_store_rvt (.tmp 2) (.tmp 39) rfl rfl O cz none 0 0 c va k vc rfl rfl HT.out.2.1 rfl ?_))
    intro w7 h7 k7
    have b7 : Below w.heap.size w w7 := HT.out.2.2.2.trans (k7.below (fun q hq => by have e' : q = O := hq; have := HNUM.out; omega) HT.out.2.2.2.size)
    have l7 : FL w7 w.heap.size (.slice va k vc) (L.filterMap tkR) := (HT.out.2.2.1.ch k7 (fun q hq e => by have e' : q = O := e; have := fl_base HT.out.2.2.1 hq; have := HNUM.out; omega)).mono (by have := HNUM.out; omega)
    go_wp2_with fail
    refine bodyPost_ret (results_rvt2 rfl _ _ O _ _ _ _ rfl h7) rfl ?_
    exact ⟨va, k, vc, by have e1 : ((L.length - (L.filterMap tkR).length : Nat) : Int) = (n : Int) - (k : Int) := by (have := HK.out; have := HH.out.2.1; omega)
                         rw [e1]; rfl, l7, HK.out.1, b7⟩
end Go.Proofs.YtclpeepnngegaaaGreatDoor
