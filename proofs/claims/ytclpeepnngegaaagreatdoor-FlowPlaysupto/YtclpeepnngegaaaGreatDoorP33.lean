/-
  RFl: lemmas of the proof of FlowPlays, and walks through the functions that it calls.
-/
import Derived.Test.YtclpeepnngegaaaGreatDoorP00
import Derived.Test.YtclpeepnngegaaaGreatDoorP31
import Derived.Test.YtclpeepnngegaaaGreatDoorP32
namespace Go.Proofs.YtclpeepnngegaaaGreatDoor
open Go.RowKit Go.Maps
theorem results_rtt3 {fn : Func} {p q u : Tmp} (h : fn.results = #[.cell p 36, .cell q 38, .tmp u]) (tmps : Array Value) (w : World) (O O2 : Nat) (c : CF) (a : Option Addr) (n k : Nat) (x : TU) (hp : tmps.getD p undef = .pointer (some ⟨O, 0, none⟩)) (hq : tmps.getD q undef = .pointer (some ⟨O2, 0, none⟩)) (hb : RvtAt w O c a n k) (hd : TupAt w O2 x) :
    (results fn tmps).run Tryz.prog w = .ok (.tuple #[.agg (rvC c a n k), .agg (tuC x), tmps.getD u undef]) w := by
  have hp' : tmps[p]?.getD undef = .pointer (some ⟨O, 0, none⟩) := by simpa using hp
  have hq' : tmps[q]?.getD undef = .pointer (some ⟨O2, 0, none⟩) := by simpa using hq
  simp [results, h, hp', hq', asAddr, run_loadVar_row w O _ 36 (rvC c a n k) _ _ hb Tryz.underlying36 rfl Tryz.size_rvt, run_loadVar_row w O2 _ 38 (tuC x) _ _ hd Tryz.underlying38 rfl Tryz.size_tup]
theorem RvtAt.all {w : World} {O : Nat} {c : CF} {a : Option Addr} {n k : Nat} (h : RvtAt w O c a n k) : w.rangeAt O 0 (rvC c a n k).toList := by
 intro j v hj
 rw [Nat.zero_add, h.cell]
 simpa using hj
theorem flo_all {w : World} {O : Nat} {p : FN} (h : FloAt w O p) : w.rangeAt O 0 (flC p).toList := by
 intro j v hj
 rw [Nat.zero_add, h.cell]
 simpa using hj
theorem find_at {L : List FN} {p : FN → Bool} {i : Nat} {f : FN} (h : ∀ g ∈ L.take i, p g = false) (hf : L[i]? = some f) (hp : p f = true) : L.find? p = some f := by
 have hl := (List.getElem?_eq_some_iff.1 hf).1
 have e : L = L.take i ++ f :: L.drop (i + 1) := by
  have h1 : L.drop i = f :: L.drop (i + 1) := by
   rw [List.drop_eq_getElem_cons hl]
   congr 1
   exact (List.getElem?_eq_some_iff.1 hf).2
  rw [← h1, List.take_append_drop]
 rw [e, List.find?_append, List.find?_eq_none.2 (fun g hg => by rw [h g hg]; decide), Option.none_or, List.find?_cons_of_pos hp]
theorem find_not {L : List FN} {p : FN → Bool} (h : ∀ g ∈ L, p g = false) : L.find? p = none := List.find?_eq_none.2 (fun g hg => by rw [h g hg]; decide)
theorem take_no {KL : List FN} {p : FN → Bool} {i : Nat} {g : FN} (h : ∀ x ∈ KL.take i, p x = false) (hg : KL[i]? = some g) (hp : p g = false) : ∀ x ∈ KL.take (i + 1), p x = false := fun x hx => by
 rw [List.take_add_one, hg, List.mem_append] at hx
 rcases hx with hx | hx
 · exact h x hx
 · simp only [Option.toList_some, List.mem_singleton] at hx
   subst hx
   exact hp
theorem sg6_lt (fl : Int) : 0 ≤ sgN 6 fl ∧ sgN 6 fl < 6 := by
 unfold sgN
 repeat' split
 all_goals first | omega | (rename_i h; exact absurd rfl h) | simp_all
def OutS (c : CF) (L : List FN) (x : TU) (fl er : Int) (y : TU) (L' : List FN) : Prop :=
 (ckE x ≠ 0 ∧ er = ckE x ∧ y = xz ∧ L' = L) ∨
 (ckE x = 0 ∧ ∃ f, L.find? (fun g => eqP g.x x) = some f ∧ ((x.pr = 6 ∧ gV (oT f.st (sgN 6 fl)) = 0 ∧ er = 173 ∧ y = xz ∧ L' = L) ∨ (∃ v, (x.pr = 6 → v ≠ 0 ∧ v = gV (oT f.st (sgN 6 fl))) ∧ (x.pr ≠ 6 → v = f.st) ∧ er = 0 ∧ y = ouT c { f with st := v } ∧ L' = rwC c L { f with st := v }))) ∨
 (ckE x = 0 ∧ L.find? (fun g => eqP g.x x) = none ∧ ((rbE c L x fl ≠ 0 ∧ er = rbE c L x fl ∧ y = xz ∧ L' = L) ∨ (rbE c L x fl = 0 ∧ er = 0 ∧ ∃ f : FN, f = ⟨x, prt c L x, if (x.pr == 6) = true then 1 else 7, 0⟩ ∧ y = ouT c f ∧ L' = rwC c L f)))
set_option maxHeartbeats 6400000 in
set_option maxRecDepth 100000 in
theorem outR_any (base : Nat) (c : CF) (a : Option Addr) (n m : Nat) (L : List FN) (x : TU) (fl : Int) (w : World) (h : FL w base (.slice a n m) L) (hn : L.length = n) (hL : n ≤ 4200) (hx : x.Wf) (hw : ∀ g ∈ L, g.x.Wf) (hst : ∀ f ∈ L, f.x.pr = 6 → 1 ≤ f.st ∧ f.st ≤ 6) (hc : -1000000 ≤ c.lo ∧ c.hi ≤ 1000000) : Calls Tryz.prog 13 #[.agg (rvC c a n m), .agg (tuC x), .int .i64 fl] w fun r w' => ∃ er y L' a' n' m', r = .returned (.tuple #[.agg (rvC c a' n' m'), .agg (tuC y), .int .i64 er]) ∧ OutS c L x fl er y L' ∧ ((L' = L ∧ a' = a ∧ n' = n ∧ m' = m) ∨ FL w' w.heap.size (.slice a' n' m') L') ∧ L'.length = n' ∧ Below w.heap.size w w' := by
 have HH : Hid (FL w base (.slice a n m) L ∧ L.length = n ∧ n ≤ 4200 ∧ x.Wf ∧ (∀ g ∈ L, g.x.Wf) ∧ (∀ f ∈ L, f.x.pr = 6 → 1 ≤ f.st ∧ f.st ≤ 6) ∧ (-1000000 ≤ c.lo ∧ c.hi ≤ 1000000)) := ⟨h, hn, hL, hx, hw, hst, hc⟩
 clear h hn hL hx hw hst hc
 obtain ⟨Wb, B, HSZX, HOX, HLX, HWX, hb⟩ := zBx w (rvC c a n m) 36
 have HBX : Hid (RvtAt Wb B c a n m) := hb
 obtain ⟨CX, hC⟩ : ∃ C, C = rvC c a n m := ⟨_, rfl⟩
 rw [← hC] at HWX ⊢
 clear hb hC
 obtain ⟨Wd, D, HSZZ, HOZ, HLZ, HWZ, hb⟩ := zBx Wb (tuC x) 38
 have HBZ : Hid (TupAt Wd D x) := hb
 obtain ⟨CZ, hC⟩ : ∃ C, C = tuC x := ⟨_, rfl⟩
 rw [← hC] at HWZ ⊢
 clear hb hC
 obtain ⟨Ya, O, -, HOY, HLY, HEY, hb⟩ := zBx Wd (rvC cz none 0 0) 36
 have HNY : Hid (RvtAt Ya O cz none 0 0) := hb
 clear hb
 obtain ⟨Yb, O2, -, HOU, HLU, HEU, hb⟩ := zBx Ya (tuC xz) 38
 have HNU : Hid (TupAt Yb O2 xz) := hb
 clear hb
 obtain ⟨Yc, NO, -, HON, HLN, HEN, hb⟩ := zBx Yb (tuC xz) 38
 have HNN : Hid (TupAt Yc NO xz) := hb
 clear hb
 have HNUM : Hid (w.heap.size = B ∧ B < D ∧ D < O ∧ O < O2 ∧ O2 < NO) := by
  have h1 := HOX.out; have h2 := HSZX.out; have h3 := HOZ.out; have h4 := HSZZ.out; have h5 := HOY.out; have h6 := HNY.out.lt; have h7 := HOU.out; have h8 := HNU.out.lt; have h9 := HON.out
  exact ⟨by omega, by omega, by omega, by omega, by omega⟩
 have H0 : Hid (RvtAt Yc B c a n m ∧ TupAt Yc D x ∧ FL Yc base (.slice a n m) L ∧ RvtAt Yc O cz none 0 0 ∧ TupAt Yc O2 xz ∧ TupAt Yc NO xz ∧ Below w.heap.size w Yc) := by
  have b2 := bthen (bthen (bthen (bthen HLX.out HLZ.out) HLY.out) HLU.out) HLN.out
  exact ⟨(((HBX.out.below HLZ.out).below HLY.out).below HLU.out).below HLN.out, ((HBZ.out.below HLY.out).below HLU.out).below HLN.out, HH.out.1.below b2, (HNY.out.below HLU.out).below HLN.out, HNU.out.below HLN.out, HNN.out, b2⟩
 go_enter Tryz.func13, Tryz.ntmps13
 go_upto_region 2 with (first | (rw [HOX.out, HWX.out]) | (rw [HOZ.out, HWZ.out]) | (refine wpList_alloc_rvt rfl rfl ?_; rw [HEY.out, HOY.out]) | (refine wpList_alloc_tup rfl rfl ?_; first | rw [HEU.out, HOU.out] | rw [HEN.out, HON.out]))
 have QW : Hid _ := wrongR_any x Yc HH.out.2.2.2.1
 obtain ⟨ck, hck⟩ : ∃ v, ckE x = v := ⟨_, rfl⟩
 have HCV : Hid (ckE x = ck) := hck
 obtain ⟨e0, h0⟩ : ∃ b, (ck != 0) = b := ⟨_, rfl⟩
 have HE0 : Hid ((ck != 0) = e0) := h0
 clear hck
 go_wp2_with (refine wpList_load_tup (.tmp 4) rfl D x rfl H0.out.2.1 rfl ?_)
 refine Calls.mono QW.out ?_
 rintro r0 w0 ⟨rfl, b0⟩
 rw [HCV.out]
 have H1 : Hid (RvtAt w0 B c a n m ∧ TupAt w0 D x ∧ FL w0 base (.slice a n m) L ∧ RvtAt w0 O cz none 0 0 ∧ TupAt w0 O2 xz ∧ TupAt w0 NO xz ∧ Below w.heap.size w w0) := ⟨H0.out.1.below b0, H0.out.2.1.below b0, H0.out.2.2.1.below b0, H0.out.2.2.2.1.below b0, H0.out.2.2.2.2.1.below b0, H0.out.2.2.2.2.2.1.below b0, bthen H0.out.2.2.2.2.2.2 b0⟩
 clear b0 QW
 cases e0 with
 | true =>
  go_upto_region 4 with fail
  refine MixH.start (fun A => RvtAt A B c a n m ∧ TupAt A NO xz) (by kernel_rfl) ?_
  obtain ⟨wA, hwA⟩ : ∃ wA, wA = w0.drew := ⟨_, rfl⟩
  have bdr := zDr hwA
  have HA : Hid (RvtAt wA B c a n m ∧ TupAt wA D x ∧ FL wA base (.slice a n m) L ∧ RvtAt wA O cz none 0 0 ∧ TupAt wA O2 xz ∧ TupAt wA NO xz ∧ Below w.heap.size w wA) := ⟨H1.out.1.below bdr, H1.out.2.1.below bdr, H1.out.2.2.1.below bdr, H1.out.2.2.2.1.below bdr, H1.out.2.2.2.2.1.below bdr, H1.out.2.2.2.2.2.1.below bdr, bthen H1.out.2.2.2.2.2.2 bdr⟩
  have hS : RvtAt wA B c a n m ∧ TupAt wA NO xz := ⟨HA.out.1, HA.out.2.2.2.2.2.1⟩
  rw [← hwA]
  clear hwA bdr
  refine MixH.tks [false, false, true] 5 hS (fun K hK => ?_)
  simp only [Mix.pick]
  repeat (go_big_quiet_step (fail))
  refine wpQuiet_nil (hK _ ?_)
  clear hK K
  refine MixH.tk 4 0 rfl (.agg (rvC c a n m)) (yields_rvt (.tmp 3) rfl B 0 c a n m rfl rfl (fun A hA => hA.1.all)) hS (fun a' ha => ?_)
  simp only [zP1, zP2, zP3, zP4] at ha
  subst ha
  refine MixH.tk 3 1 rfl (.agg (tuC xz)) (yields_tup (.tmp 9) rfl NO 0 xz rfl rfl (fun A hA => hA.2.all)) hS (fun a' ha => ?_)
  simp only [zP1, zP2, zP3, zP4] at ha
  subst ha
  refine MixH.one [false, false, false, true] 2 3 _ rfl rfl (by kernel_rfl) (by kernel_rfl) (fun K hK => ?_)
  simp only [Mix.pick]
  go_wp2_with (refine wpList_store_rvt (.tmp 6) (.tmp 18) rfl rfl O cz none 0 0 c a n m rfl rfl HA.out.2.2.2.1 rfl ?_)
  intro w3 h3 k3
  have hS : RvtAt w3 B c a n m ∧ TupAt w3 NO xz := ⟨HA.out.1.ch k3 (by have := HNUM.out; omega), HA.out.2.2.2.2.2.1.ch k3 (by have := HNUM.out; omega)⟩
  have HE3 : Hid (RvtAt w3 O c a n m ∧ TupAt w3 O2 xz ∧ Below w.heap.size w w3) := ⟨h3, HA.out.2.2.2.2.1.ch k3 (by have := HNUM.out; omega), HA.out.2.2.2.2.2.2.trans (k3.below (fun q hq => by have e' : q = O := hq; have := HNUM.out; omega) HA.out.2.2.2.2.2.2.size)⟩
  clear h3 k3
  go_wp2_with fail
  refine ⟨rfl, hK _ _ hS ?_⟩
  clear hK K
  refine MixH.one [false, false, false, false, true] 1 4 _ rfl rfl (by kernel_rfl) (by kernel_rfl) (fun K hK => ?_)
  simp only [Mix.pick]
  go_wp2_with (refine wpList_store_tup (.tmp 7) (.tmp 19) rfl rfl O2 xz xz rfl rfl HE3.out.2.1 rfl ?_)
  intro w4 h4 k4
  have hS' : RvtAt w4 B c a n m ∧ TupAt w4 NO xz := ⟨hS.1.ch k4 (by have := HNUM.out; omega), hS.2.ch k4 (by have := HNUM.out; omega)⟩
  have HE4 : Hid (RvtAt w4 O c a n m ∧ TupAt w4 O2 xz ∧ Below w.heap.size w w4) := ⟨HE3.out.1.ch k4 (by have := HNUM.out; omega), h4, HE3.out.2.2.trans (k4.below (fun q hq => by have e' : q = O2 := hq; have := HNUM.out; omega) HE3.out.2.2.size)⟩
  clear hS h4 k4
  have hS : RvtAt w4 B c a n m ∧ TupAt w4 NO xz := hS'
  clear hS'
  go_wp2_with fail
  refine ⟨rfl, hK _ _ hS ?_⟩
  clear hK K
  refine MixH.tks [false, false, false, false, false, true] 0 hS (fun K hK => ?_)
  simp only [Mix.pick]
  repeat (go_big_quiet_step (fail))
  refine wpQuiet_nil (hK _ ?_)
  clear hK K
  refine MixH.done (by kernel_rfl) ?_
  go_wp2_with fail
  refine bodyPost_ret (results_rtt3 rfl _ _ O O2 _ _ _ _ _ rfl rfl HE4.out.1 HE4.out.2.1) rfl ?_
  exact ⟨ck, xz, L, a, n, m, rfl, .inl ⟨by rw [HCV.out]; simpa using HE0.out, HCV.out.symm, rfl, rfl⟩, .inl ⟨rfl, rfl, rfl, rfl⟩, HH.out.2.1, HE4.out.2.2⟩
 | false =>
  have HCK : Hid (ckE x = 0) := by show _ = _; rw [HCV.out]; simpa using HE0.out
  have H2 : Hid ((RvtAt w0 B c a n m ∧ TupAt w0 D x ∧ FL w0 base (.slice a n m) L ∧ RvtAt w0 O cz none 0 0 ∧ TupAt w0 O2 xz ∧ TupAt w0 NO xz ∧ Below w.heap.size w w0) ∧ ∀ g ∈ L.take 0, (fun f => eqP f.x x) g = false) := ⟨H1.out, fun g hg => by simp at hg⟩
  go_wp2_with fail
  go_loopw [11, 12] (fun ix _ wr => ∃ i : Nat, ix = .int .i64 (i : Nat) ∧ i ≤ n ∧ Hid ((RvtAt wr B c a n m ∧ TupAt wr D x ∧ FL wr base (.slice a n m) L ∧ RvtAt wr O cz none 0 0 ∧ TupAt wr O2 xz ∧ TupAt wr NO xz ∧ Below w.heap.size w wr) ∧ ∀ g ∈ L.take i, (fun f => eqP f.x x) g = false)) (fun ix _ _ => n - (intOf ix).toNat)
  case atStart => exact ⟨0, rfl, Nat.zero_le _, H2.out⟩
  case round =>
   clear H2
   obtain ⟨i, rfl, hi, HI⟩ := hrel
   by_cases hin : i < n
   · have p1 : decide ((i : Int) < (n : Int)) = true := decide_eq_true (by omega)
     have p2 : decide (i < n) = true := decide_eq_true hin
     have i0 : (0 : Int) ≤ (i : Int) := by omega
     have i1 : (i : Int) < (n : Int) := by omega
     have i2 : ((i : Int)).toNat = i := by omega
     have wi : IntKind.i64.wrap ((i : Int) + 1) = (i : Int) + 1 := i64_k _ (by omega) (by have := HH.out.2.2.1; omega)
     obtain ⟨f, hf⟩ : ∃ f, L[i]? = some f := ⟨_, List.getElem?_eq_getElem (by rw [HH.out.2.1]; exact hin)⟩
     obtain ⟨g, c', hv, _, _, hr⟩ := HI.out.1.2.2.1.at i f hf
     simp only [Value.slice.injEq] at hv
     obtain ⟨rfl, x1, x2⟩ := hv
     clear x1 x2
     have HR : Hid (wr.rangeAt g (i * 40) (flC f).toList) := hr
     have HIN : Hid (i < n ∧ L[i]? = some f) := ⟨hin, hf⟩
     have c25 : wr.cell? ⟨B, 25, none⟩ = some (.slice (some ⟨g, 0, none⟩) n m) := HI.out.1.1.cell 25
     obtain ⟨eq, heq⟩ : ∃ b, eqP f.x x = b := ⟨_, rfl⟩
     have HEQ : Hid (eqP f.x x = eq) := heq
     clear hf hr hin hi heq
     obtain ⟨Yf, OF, -, HOF, HLF, HEF, hb⟩ := zBx wr (flC fz0) 72
     have HNF : Hid (FloAt Yf OF fz0) := hb
     clear hb
     go_upto_region 9 with (first | (refine wpList_mid_flo (.tmp 31) rfl g (i * 40) f rfl HR.out rfl ?_) | (refine wpList_alloc_flo rfl rfl ?_; rw [HEF.out, HOF.out]) | (refine wpList_store_flo (.tmp 12) (.tmp 32) rfl rfl OF fz0 f rfl rfl HNF.out rfl ?_; intro w2 h2 k2))
     have HOF8 : wr.heap.size = OF := HOF.out
     have HOF : Hid (NO < OF) := by have h7 := HI.out.1.2.2.2.2.2.1.lt; show _ < _; omega
     have H2 : Hid ((RvtAt w2 B c (some ⟨g, 0, none⟩) n m ∧ TupAt w2 D x ∧ FL w2 base (.slice (some ⟨g, 0, none⟩) n m) L ∧ RvtAt w2 O cz none 0 0 ∧ TupAt w2 O2 xz ∧ TupAt w2 NO xz ∧ Below w.heap.size w w2) ∧ FloAt w2 OF f) := by
      have b9 : Below wr.heap.size wr w2 := HLF.out.trans (k2.below (fun q hq => by have e' : q = OF := hq; omega) HLF.out.size)
      exact ⟨⟨HI.out.1.1.below b9, HI.out.1.2.1.below b9, HI.out.1.2.2.1.below b9, HI.out.1.2.2.2.1.below b9, HI.out.1.2.2.2.2.1.below b9, HI.out.1.2.2.2.2.2.1.below b9, bthen HI.out.1.2.2.2.2.2.2 b9⟩, h2⟩
     clear h2 k2 HOF8 c25
     cases eq with
     | false =>
      go_upto_region 7 with (first | (refine wpList_mid_tup (.tmp 33) rfl OF 0 f.x rfl H2.out.2.tup rfl ?_) | (refine wpList_load_tup (.tmp 4) rfl D x rfl H2.out.1.2.1 rfl ?_) | (refine wpList_neq_tu (.tmp 34) (.tmp 35) rfl f.x x rfl rfl true (by rw [HEQ.out]; rfl) rfl ?_))
      have H3 : Hid ((RvtAt w2 B c (some ⟨g, 0, none⟩) n m ∧ TupAt w2 D x ∧ FL w2 base (.slice (some ⟨g, 0, none⟩) n m) L ∧ RvtAt w2 O cz none 0 0 ∧ TupAt w2 O2 xz ∧ TupAt w2 NO xz ∧ Below w.heap.size w w2) ∧ FloAt w2 OF f) := H2.out
      obtain ⟨w3, hw3⟩ : ∃ W_, W_ = w2 := ⟨_, rfl⟩
      rw [← hw3] at H3 ⊢
      clear hw3
      go_wp2_with fail
      go_roundw
      case rel => exact ⟨i + 1, by go_num, by have := HIN.out.1; omega, H3.out.1, take_no (p := fun f => eqP f.x x) HI.out.2 HIN.out.2 HEQ.out⟩
      case measure => have := HIN.out.1; simp [intOf]; omega
     | true =>
      go_upto_region 10 with (first | (refine wpList_mid_tup (.tmp 33) rfl OF 0 f.x rfl H2.out.2.tup rfl ?_) | (refine wpList_load_tup (.tmp 4) rfl D x rfl H2.out.1.2.1 rfl ?_) | (refine wpList_neq_tu (.tmp 34) (.tmp 35) rfl f.x x rfl rfl false (by rw [HEQ.out]; rfl) rfl ?_))
      have H3 : Hid ((RvtAt w2 B c (some ⟨g, 0, none⟩) n m ∧ TupAt w2 D x ∧ FL w2 base (.slice (some ⟨g, 0, none⟩) n m) L ∧ RvtAt w2 O cz none 0 0 ∧ TupAt w2 O2 xz ∧ TupAt w2 NO xz ∧ Below w.heap.size w w2) ∧ FloAt w2 OF f) := H2.out
      obtain ⟨w3, hw3⟩ : ∃ W_, W_ = w2 := ⟨_, rfl⟩
      rw [← hw3] at H3 ⊢
      clear hw3
      have d0 : w3.cell? ⟨D, 0, none⟩ = some (.int .i64 x.pr) := H3.out.1.2.1.c0
      have HWF : Hid (f.x.Wf) := HH.out.2.2.2.2.1 f (List.mem_of_getElem? HIN.out.2)
      obtain ⟨e0, h0⟩ : ∃ b, (x.pr == 6) = b := ⟨_, rfl⟩
      have HE0 : Hid ((x.pr == 6) = e0) := h0
      cases e0 with
      | false =>
       go_upto_region 14 with fail
       refine MixH.start (fun A => RvtAt A B c (some ⟨g, 0, none⟩) n m ∧ FloAt A OF (f)) (by kernel_rfl) ?_
       obtain ⟨wA, hwA⟩ : ∃ wA, wA = w3.drew := ⟨_, rfl⟩
       have bdr := zDr hwA
       have hS : RvtAt wA B c (some ⟨g, 0, none⟩) n m ∧ FloAt wA OF (f) := ⟨H3.out.1.1.below bdr, H3.out.2.below bdr⟩
       have HA : Hid ((RvtAt wA B c (some ⟨g, 0, none⟩) n m ∧ FloAt wA OF (f)) ∧ FL wA base (.slice (some ⟨g, 0, none⟩) n m) L ∧ RvtAt wA O cz none 0 0 ∧ TupAt wA O2 xz ∧ Below w.heap.size w wA) := ⟨hS, H3.out.1.2.2.1.below bdr, H3.out.1.2.2.2.1.below bdr, H3.out.1.2.2.2.2.1.below bdr, bthen H3.out.1.2.2.2.2.2.2 bdr⟩
       have HWS : Hid (NO < OF ∧ OF < wA.heap.size ∧ B < O ∧ O < O2 ∧ O2 < NO ∧ w.heap.size ≤ wA.heap.size) := ⟨HOF.out, hS.2.lt, by have := HNUM.out; omega, by have := HNUM.out; omega, by have := HNUM.out; omega, HA.out.2.2.2.2.size⟩
       have HA : Hid ((RvtAt wA B c (some ⟨g, 0, none⟩) n m ∧ FloAt wA OF (f)) ∧ FL wA base (.slice (some ⟨g, 0, none⟩) n m) L ∧ RvtAt wA O cz none 0 0 ∧ TupAt wA O2 xz ∧ Below w.heap.size w wA) := HA
       rw [← hwA]
       clear hwA bdr
       refine MixH.tk 8 0 rfl (.agg (rvC c (some ⟨g, 0, none⟩) n m)) (yields_rvt (.tmp 3) rfl B 0 c (some ⟨g, 0, none⟩) n m rfl rfl (fun A hA => hA.1.all)) hS (fun a' ha => ?_)
       simp only [zP1, zP2, zP3, zP4] at ha
       subst ha
       refine MixH.tk 7 1 rfl (.agg (flC (f))) (yields_flo (.tmp 12) rfl OF 0 (f) rfl rfl (fun A hA => flo_all hA.2)) hS (fun a' ha => ?_)
       simp only [zP1, zP2, zP3, zP4] at ha
       subst ha
       refine MixH.tk 6 3 rfl (.agg (rvC c (some ⟨g, 0, none⟩) n m)) (yields_rvt (.tmp 3) rfl B 0 c (some ⟨g, 0, none⟩) n m rfl rfl (fun A hA => hA.1.all)) hS (fun a' ha => ?_)
       simp only [zP1, zP2, zP3, zP4] at ha
       subst ha
       refine MixH.tk 5 4 rfl (.agg (flC (f))) (yields_flo (.tmp 12) rfl OF 0 (f) rfl rfl (fun A hA => flo_all hA.2)) hS (fun a' ha => ?_)
       simp only [zP1, zP2, zP3, zP4] at ha
       subst ha
       refine MixH.one [false, false, true] 4 2 _ rfl rfl (by kernel_rfl) (by kernel_rfl) (fun K hK => ?_)
       simp only [Mix.pick]
       go_wp2_with fail
       refine Calls.mono (withR_any base c (some ⟨g, 0, none⟩) n m L (f) wA HA.out.2.1 HH.out.2.1 HH.out.2.2.1 ⟨HWF.out, HH.out.2.2.2.2.1⟩) ?_
       rintro r1 w1 ⟨a1, n1, m1, rfl, l1, k1, b1⟩
       have HC : Hid (FL w1 wA.heap.size (.slice a1 n1 m1) (rwC c L (f)) ∧ (rwC c L (f)).length = n1 ∧ Below wA.heap.size wA w1) := ⟨l1, k1, b1⟩
       have hS' : RvtAt w1 B c (some ⟨g, 0, none⟩) n m ∧ FloAt w1 OF (f) := ⟨hS.1.below b1, hS.2.below b1⟩
       clear hS l1 k1 b1
       have hS : RvtAt w1 B c (some ⟨g, 0, none⟩) n m ∧ FloAt w1 OF (f) := hS'
       clear hS'
       go_wp2_with fail
       refine ⟨rfl, hK _ _ hS ?_⟩
       clear hK K
       refine MixH.one [false, false, false, false, false, true] 3 5 _ rfl rfl (by kernel_rfl) (by kernel_rfl) (fun K hK => ?_)
       simp only [Mix.pick]
       go_wp2_with fail
       refine Calls.mono (outsideR_any c (some ⟨g, 0, none⟩) n m (f) w1) ?_
       rintro r2 w2 ⟨rfl, b2⟩
       have HC2 : Hid (FL w2 wA.heap.size (.slice a1 n1 m1) (rwC c L (f)) ∧ Below wA.heap.size wA w2) := ⟨HC.out.1.below b2, bthen HC.out.2.2 b2⟩
       have hS' : RvtAt w2 B c (some ⟨g, 0, none⟩) n m ∧ FloAt w2 OF (f) := ⟨hS.1.below b2, hS.2.below b2⟩
       clear hS b2
       have hS : RvtAt w2 B c (some ⟨g, 0, none⟩) n m ∧ FloAt w2 OF (f) := hS'
       clear hS'
       go_wp2_with fail
       refine ⟨rfl, hK _ _ hS ?_⟩
       clear hK K
       refine MixH.one [false, false, false, false, false, false, true] 2 6 _ rfl rfl (by kernel_rfl) (by kernel_rfl) (fun K hK => ?_)
       simp only [Mix.pick]
       go_wp2_with (refine wpList_store_rvt (.tmp 6) (.tmp 53) rfl rfl O cz none 0 0 c a1 n1 m1 rfl rfl (HA.out.2.2.1.below HC2.out.2) rfl ?_)
       intro w3 h3 k3
       have hS' : RvtAt w3 B c (some ⟨g, 0, none⟩) n m ∧ FloAt w3 OF (f) := ⟨hS.1.ch k3 (by have := HNUM.out; omega), hS.2.ch k3 (by have := HWS.out; omega)⟩
       have HE3 : Hid (RvtAt w3 O c a1 n1 m1 ∧ TupAt w3 O2 xz ∧ FL w3 wA.heap.size (.slice a1 n1 m1) (rwC c L (f)) ∧ Below w.heap.size w w3) := ⟨h3, (HA.out.2.2.2.1.below HC2.out.2).ch k3 (by have := HNUM.out; omega), HC2.out.1.ch k3 (fun q hq e => by have e' : q = O := e; have := fl_base HC2.out.1 hq; have := HWS.out; omega), (bthen HA.out.2.2.2.2 HC2.out.2).trans (k3.below (fun q hq => by have e' : q = O := hq; have := HNUM.out; omega) (bthen HA.out.2.2.2.2 HC2.out.2).size)⟩
       clear hS h3 k3
       have hS : RvtAt w3 B c (some ⟨g, 0, none⟩) n m ∧ FloAt w3 OF (f) := hS'
       clear hS'
       go_wp2_with fail
       refine ⟨rfl, hK _ _ hS ?_⟩
       clear hK K
       refine MixH.one [false, false, false, false, false, false, false, true] 1 7 _ rfl rfl (by kernel_rfl) (by kernel_rfl) (fun K hK => ?_)
       simp only [Mix.pick]
       go_wp2_with (refine wpList_store_tup (.tmp 7) (.tmp 56) rfl rfl O2 xz (ouT c (f)) rfl rfl HE3.out.2.1 rfl ?_)
       intro w4 h4 k4
       have hS' : RvtAt w4 B c (some ⟨g, 0, none⟩) n m ∧ FloAt w4 OF (f) := ⟨hS.1.ch k4 (by have := HNUM.out; omega), hS.2.ch k4 (by have := HWS.out; omega)⟩
       have HE4 : Hid (RvtAt w4 O c a1 n1 m1 ∧ TupAt w4 O2 (ouT c (f)) ∧ FL w4 w.heap.size (.slice a1 n1 m1) (rwC c L (f)) ∧ Below w.heap.size w w4) := ⟨HE3.out.1.ch k4 (by have := HNUM.out; omega), h4, (HE3.out.2.2.1.ch k4 (fun q hq e => by have e' : q = O2 := e; have := fl_base HE3.out.2.2.1 hq; have := HWS.out; omega)).mono (by have := HWS.out; have := HNUM.out; omega), HE3.out.2.2.2.trans (k4.below (fun q hq => by have e' : q = O2 := hq; have := HNUM.out; omega) HE3.out.2.2.2.size)⟩
       clear hS h4 k4
       have hS : RvtAt w4 B c (some ⟨g, 0, none⟩) n m ∧ FloAt w4 OF (f) := hS'
       clear hS'
       go_wp2_with fail
       refine ⟨rfl, hK _ _ hS ?_⟩
       clear hK K
       refine MixH.tks [false, false, false, false, false, false, false, false, true] 0 hS (fun K hK => ?_)
       simp only [Mix.pick]
       repeat (go_big_quiet_step (fail))
       refine wpQuiet_nil (hK _ ?_)
       clear hK K
       refine MixH.done (by kernel_rfl) ?_
       go_wp2_with fail
       refine bodyPost_ret (results_rtt3 rfl _ _ O O2 _ _ _ _ _ rfl rfl HE4.out.1 HE4.out.2.1) rfl ?_
       exact ⟨0, ouT c (f), rwC c L (f), a1, n1, m1, rfl, .inr (.inl ⟨HCK.out, f, find_at (p := fun g => eqP g.x x) HI.out.2 HIN.out.2 HEQ.out, .inr ⟨f.st, fun h => (by have := HE0.out; rw [h] at this; cases this), fun _ => rfl, rfl, rfl, rfl⟩⟩), .inr HE4.out.2.2.1, HC.out.2.1, HE4.out.2.2.2⟩
      | true =>
       have HPR : Hid (x.pr = 6 ∧ f.x.pr = 6) := by
        have h1 : x.pr = 6 := by simpa using HE0.out
        have h2 := HEQ.out
        refine ⟨h1, ?_⟩
        unfold eqP at h2
        simp only [Bool.and_eq_true, beq_iff_eq] at h2
        omega
       have HSG : Hid (0 ≤ sgN 6 fl ∧ sgN 6 fl < 6) := sg6_lt fl
       obtain ⟨v, hv⟩ : ∃ v, gV (oT f.st (sgN 6 fl)) = v := ⟨_, rfl⟩
       have QG : Hid _ := goes_any f.st (sgN 6 fl)
       have HV : Hid (gV (oT f.st (sgN 6 fl)) = v) := hv
       clear hv
       go_upto_region 11 with fail
       refine MixJ.start (fun A => A.cell? ⟨OF, 38, none⟩ = some (.int .i64 f.st)) 6 (by kernel_rfl) ?_
       obtain ⟨wA, hwA⟩ : ∃ wA, wA = w3.drew := ⟨_, rfl⟩
       have bdr := zDr hwA
       have HA : Hid ((RvtAt wA B c (some ⟨g, 0, none⟩) n m ∧ TupAt wA D x ∧ FL wA base (.slice (some ⟨g, 0, none⟩) n m) L ∧ RvtAt wA O cz none 0 0 ∧ TupAt wA O2 xz ∧ TupAt wA NO xz ∧ Below w.heap.size w wA) ∧ FloAt wA OF f) := ⟨⟨H3.out.1.1.below bdr, H3.out.1.2.1.below bdr, H3.out.1.2.2.1.below bdr, H3.out.1.2.2.2.1.below bdr, H3.out.1.2.2.2.2.1.below bdr, H3.out.1.2.2.2.2.2.1.below bdr, bthen H3.out.1.2.2.2.2.2.2 bdr⟩, H3.out.2.below bdr⟩
       have hS : wA.cell? ⟨OF, 38, none⟩ = some (.int .i64 f.st) := HA.out.2.c38
       have f38 := HA.out.2.fz 38
       rw [← hwA]
       clear hwA bdr
       refine MixJ.takes [true, false, true] 5 (by kernel_rfl) (by kernel_rfl) (by decide) (by kernel_rfl) (by kernel_rfl) hS (fun K hK => ?_)
       simp only [Mix.pick]
       repeat (go_big_quiet_step (fail))
       refine wpQuiet_nil (hK _ ?_)
       clear hK K
       refine MixJ.take 4 1 _ (.int .i64 f.st) rfl (by kernel_rfl) (by kernel_rfl) (by kernel_rfl) (by kernel_rfl) (by kernel_rfl) (by kernel_rfl) (yields_int (.tmp 40) rfl ⟨OF, 38, none⟩ (.int .i64 f.st) rfl rfl (fun A hA => hA)) hS (fun a' ha => ?_)
       simp only [zP1, zP2, zP3, zP4] at ha
       subst ha
       refine MixJ.many [3] 3 (by kernel_rfl) (by decide) (by kernel_rfl) ?_
       intro i_ hi_
       simp only [zMc, zMn, or_false] at hi_
       subst hi_
       refine ⟨_, rfl, fun K hK => ?_⟩
       go_wp2_with fail
       refine Calls.mono (segR_any fl wA) ?_
       rintro e8 _ ⟨rfl, rfl⟩
       go_wp2_with fail
       refine ⟨rfl, hK _ _ (fun _ => hS) ?_⟩
       clear hK K
       refine MixJ.many [4] 2 (by kernel_rfl) (by decide) (by kernel_rfl) ?_
       intro i_ hi_
       simp only [zMc, zMn, or_false] at hi_
       subst hi_
       refine ⟨_, rfl, fun K hK => ?_⟩
       go_wp2_with fail
       refine Calls.mono (QG.out wA (HH.out.2.2.2.2.2.1 f (List.mem_of_getElem? HIN.out.2) HPR.out.2) HSG.out) ?_
       rintro e9 _ ⟨rfl, rfl⟩
       rw [HV.out]
       go_wp2_with fail
       refine ⟨rfl, hK _ _ (fun _ => hS) ?_⟩
       clear hK K
       refine MixJ.takes [false, false, false, false, false, true] 1 (by kernel_rfl) (by kernel_rfl) (by decide) (by kernel_rfl) (by kernel_rfl) hS (fun K hK => ?_)
       simp only [Mix.pick]
       repeat (go_big_quiet_step (fail))
       refine wpQuiet_nil (hK _ ?_)
       clear hK K
       refine MixJ.many [6] 0 (by kernel_rfl) (by decide) (by kernel_rfl) ?_
       intro i_ hi_
       simp only [zMc, zMn, or_false] at hi_
       subst hi_
       refine ⟨_, rfl, fun K hK => ?_⟩
       go_wp2_with fail
       refine ⟨rfl, hK _ _ (fun q => absurd rfl q) ?_⟩
       clear hK K
       refine MixJ.done (by kernel_rfl) ?_
       clear hS f38
       obtain ⟨w5, hw5⟩ : ∃ y, wA.setCell ⟨OF, 38, none⟩ (.int .i64 v) = y := ⟨_, rfl⟩
       have H5 : Hid ((RvtAt w5 B c (some ⟨g, 0, none⟩) n m ∧ TupAt w5 D x ∧ FL w5 base (.slice (some ⟨g, 0, none⟩) n m) L ∧ RvtAt w5 O cz none 0 0 ∧ TupAt w5 O2 xz ∧ TupAt w5 NO xz ∧ Below w.heap.size w w5) ∧ FloAt w5 OF ⟨f.x, f.po, v, f.le⟩) := by
        obtain ⟨q1, q2, q3, q4, q5⟩ := HNUM.out
        have q6 := HOF.out
        have h1 := FloAt.set HA.out.2 38 (.int .i64 v) (set_st _ _)
        have k3 := (Ch.refl (fun q => q = OF) wA).set ⟨OF, 38, none⟩ (.int .i64 v) rfl
        rw [hw5] at h1 k3
        have hfl : ∀ q, (Value.slice (some ⟨g, 0, none⟩) n m).ownBlock = some q → q ≠ OF := fun q hq e => by have := fl_lt HH.out.1 hq; omega
        exact ⟨⟨HA.out.1.1.ch k3 (by omega), HA.out.1.2.1.ch k3 (by omega), HA.out.1.2.2.1.ch k3 (fun q hq e => hfl q hq e), HA.out.1.2.2.2.1.ch k3 (by omega), HA.out.1.2.2.2.2.1.ch k3 (by omega), HA.out.1.2.2.2.2.2.1.ch k3 (by omega), HA.out.1.2.2.2.2.2.2.trans (k3.below (fun q hq => by have e' : q = OF := hq; omega) HA.out.1.2.2.2.2.2.2.size)⟩, h1⟩
       rw [hw5]
       clear hw5
       have c38 : w5.cell? ⟨OF, 38, none⟩ = some (.int .i64 v) := H5.out.2.c38
       obtain ⟨e5, h5⟩ : ∃ b, (v == 0) = b := ⟨_, rfl⟩
       have HE5 : Hid ((v == 0) = e5) := h5
       cases e5 with
       | true =>
        go_upto_region 13 with fail
        refine MixH.start (fun A => RvtAt A B c (some ⟨g, 0, none⟩) n m ∧ TupAt A NO xz) (by kernel_rfl) ?_
        obtain ⟨wA, hwA⟩ : ∃ wA, wA = w5.drew := ⟨_, rfl⟩
        have bdr := zDr hwA
        have HA : Hid (RvtAt wA B c (some ⟨g, 0, none⟩) n m ∧ TupAt wA D x ∧ FL wA base (.slice (some ⟨g, 0, none⟩) n m) L ∧ RvtAt wA O cz none 0 0 ∧ TupAt wA O2 xz ∧ TupAt wA NO xz ∧ Below w.heap.size w wA) := ⟨H5.out.1.1.below bdr, H5.out.1.2.1.below bdr, H5.out.1.2.2.1.below bdr, H5.out.1.2.2.2.1.below bdr, H5.out.1.2.2.2.2.1.below bdr, H5.out.1.2.2.2.2.2.1.below bdr, bthen H5.out.1.2.2.2.2.2.2 bdr⟩
        have hS : RvtAt wA B c (some ⟨g, 0, none⟩) n m ∧ TupAt wA NO xz := ⟨HA.out.1, HA.out.2.2.2.2.2.1⟩
        rw [← hwA]
        clear hwA bdr
        refine MixH.tk 4 0 rfl (.agg (rvC c (some ⟨g, 0, none⟩) n m)) (yields_rvt (.tmp 3) rfl B 0 c (some ⟨g, 0, none⟩) n m rfl rfl (fun A hA => hA.1.all)) hS (fun a' ha => ?_)
        simp only [zP1, zP2, zP3, zP4] at ha
        subst ha
        refine MixH.tk 3 1 rfl (.agg (tuC xz)) (yields_tup (.tmp 9) rfl NO 0 xz rfl rfl (fun A hA => hA.2.all)) hS (fun a' ha => ?_)
        simp only [zP1, zP2, zP3, zP4] at ha
        subst ha
        refine MixH.one [false, false, true] 2 2 _ rfl rfl (by kernel_rfl) (by kernel_rfl) (fun K hK => ?_)
        simp only [Mix.pick]
        go_wp2_with (refine wpList_store_rvt (.tmp 6) (.tmp 49) rfl rfl O cz none 0 0 c (some ⟨g, 0, none⟩) n m rfl rfl HA.out.2.2.2.1 rfl ?_)
        intro w3 h3 k3
        have hS : RvtAt w3 B c (some ⟨g, 0, none⟩) n m ∧ TupAt w3 NO xz := ⟨HA.out.1.ch k3 (by have := HNUM.out; omega), HA.out.2.2.2.2.2.1.ch k3 (by have := HNUM.out; omega)⟩
        have HE3 : Hid (RvtAt w3 O c (some ⟨g, 0, none⟩) n m ∧ TupAt w3 O2 xz ∧ Below w.heap.size w w3) := ⟨h3, HA.out.2.2.2.2.1.ch k3 (by have := HNUM.out; omega), HA.out.2.2.2.2.2.2.trans (k3.below (fun q hq => by have e' : q = O := hq; have := HNUM.out; omega) HA.out.2.2.2.2.2.2.size)⟩
        clear h3 k3
        go_wp2_with fail
        refine ⟨rfl, hK _ _ hS ?_⟩
        clear hK K
        refine MixH.one [false, false, false, true] 1 3 _ rfl rfl (by kernel_rfl) (by kernel_rfl) (fun K hK => ?_)
        simp only [Mix.pick]
        go_wp2_with (refine wpList_store_tup (.tmp 7) (.tmp 50) rfl rfl O2 xz xz rfl rfl HE3.out.2.1 rfl ?_)
        intro w4 h4 k4
        have hS' : RvtAt w4 B c (some ⟨g, 0, none⟩) n m ∧ TupAt w4 NO xz := ⟨hS.1.ch k4 (by have := HNUM.out; omega), hS.2.ch k4 (by have := HNUM.out; omega)⟩
        have HE4 : Hid (RvtAt w4 O c (some ⟨g, 0, none⟩) n m ∧ TupAt w4 O2 xz ∧ Below w.heap.size w w4) := ⟨HE3.out.1.ch k4 (by have := HNUM.out; omega), h4, HE3.out.2.2.trans (k4.below (fun q hq => by have e' : q = O2 := hq; have := HNUM.out; omega) HE3.out.2.2.size)⟩
        clear hS h4 k4
        have hS : RvtAt w4 B c (some ⟨g, 0, none⟩) n m ∧ TupAt w4 NO xz := hS'
        clear hS'
        go_wp2_with fail
        refine ⟨rfl, hK _ _ hS ?_⟩
        clear hK K
        refine MixH.tks [false, false, false, false, true] 0 hS (fun K hK => ?_)
        simp only [Mix.pick]
        repeat (go_big_quiet_step (fail))
        refine wpQuiet_nil (hK _ ?_)
        clear hK K
        refine MixH.done (by kernel_rfl) ?_
        go_wp2_with fail
        refine bodyPost_ret (results_rtt3 rfl _ _ O O2 _ _ _ _ _ rfl rfl HE4.out.1 HE4.out.2.1) rfl ?_
        exact ⟨173, xz, L, (some ⟨g, 0, none⟩), n, m, rfl, .inr (.inl ⟨HCK.out, f, find_at (p := fun g => eqP g.x x) HI.out.2 HIN.out.2 HEQ.out, .inl ⟨HPR.out.1, by rw [HV.out]; simpa using HE5.out, rfl, rfl, rfl⟩⟩), .inl ⟨rfl, rfl, rfl, rfl⟩, HH.out.2.1, HE4.out.2.2⟩
       | false =>
        go_upto_region 14 with fail
        refine MixH.start (fun A => RvtAt A B c (some ⟨g, 0, none⟩) n m ∧ FloAt A OF (⟨f.x, f.po, v, f.le⟩)) (by kernel_rfl) ?_
        obtain ⟨wA, hwA⟩ : ∃ wA, wA = w5.drew := ⟨_, rfl⟩
        have bdr := zDr hwA
        have hS : RvtAt wA B c (some ⟨g, 0, none⟩) n m ∧ FloAt wA OF (⟨f.x, f.po, v, f.le⟩) := ⟨H5.out.1.1.below bdr, H5.out.2.below bdr⟩
        have HA : Hid ((RvtAt wA B c (some ⟨g, 0, none⟩) n m ∧ FloAt wA OF (⟨f.x, f.po, v, f.le⟩)) ∧ FL wA base (.slice (some ⟨g, 0, none⟩) n m) L ∧ RvtAt wA O cz none 0 0 ∧ TupAt wA O2 xz ∧ Below w.heap.size w wA) := ⟨hS, H5.out.1.2.2.1.below bdr, H5.out.1.2.2.2.1.below bdr, H5.out.1.2.2.2.2.1.below bdr, bthen H5.out.1.2.2.2.2.2.2 bdr⟩
        have HWS : Hid (NO < OF ∧ OF < wA.heap.size ∧ B < O ∧ O < O2 ∧ O2 < NO ∧ w.heap.size ≤ wA.heap.size) := ⟨HOF.out, hS.2.lt, by have := HNUM.out; omega, by have := HNUM.out; omega, by have := HNUM.out; omega, HA.out.2.2.2.2.size⟩
        have HA : Hid ((RvtAt wA B c (some ⟨g, 0, none⟩) n m ∧ FloAt wA OF (⟨f.x, f.po, v, f.le⟩)) ∧ FL wA base (.slice (some ⟨g, 0, none⟩) n m) L ∧ RvtAt wA O cz none 0 0 ∧ TupAt wA O2 xz ∧ Below w.heap.size w wA) := HA
        rw [← hwA]
        clear hwA bdr
        refine MixH.tk 8 0 rfl (.agg (rvC c (some ⟨g, 0, none⟩) n m)) (yields_rvt (.tmp 3) rfl B 0 c (some ⟨g, 0, none⟩) n m rfl rfl (fun A hA => hA.1.all)) hS (fun a' ha => ?_)
        simp only [zP1, zP2, zP3, zP4] at ha
        subst ha
        refine MixH.tk 7 1 rfl (.agg (flC (⟨f.x, f.po, v, f.le⟩))) (yields_flo (.tmp 12) rfl OF 0 (⟨f.x, f.po, v, f.le⟩) rfl rfl (fun A hA => flo_all hA.2)) hS (fun a' ha => ?_)
        simp only [zP1, zP2, zP3, zP4] at ha
        subst ha
        refine MixH.tk 6 3 rfl (.agg (rvC c (some ⟨g, 0, none⟩) n m)) (yields_rvt (.tmp 3) rfl B 0 c (some ⟨g, 0, none⟩) n m rfl rfl (fun A hA => hA.1.all)) hS (fun a' ha => ?_)
        simp only [zP1, zP2, zP3, zP4] at ha
        subst ha
        refine MixH.tk 5 4 rfl (.agg (flC (⟨f.x, f.po, v, f.le⟩))) (yields_flo (.tmp 12) rfl OF 0 (⟨f.x, f.po, v, f.le⟩) rfl rfl (fun A hA => flo_all hA.2)) hS (fun a' ha => ?_)
        simp only [zP1, zP2, zP3, zP4] at ha
        subst ha
        refine MixH.one [false, false, true] 4 2 _ rfl rfl (by kernel_rfl) (by kernel_rfl) (fun K hK => ?_)
        simp only [Mix.pick]
        go_wp2_with fail
        refine Calls.mono (withR_any base c (some ⟨g, 0, none⟩) n m L (⟨f.x, f.po, v, f.le⟩) wA HA.out.2.1 HH.out.2.1 HH.out.2.2.1 ⟨HWF.out, HH.out.2.2.2.2.1⟩) ?_
        rintro r1 w1 ⟨a1, n1, m1, rfl, l1, k1, b1⟩
        have HC : Hid (FL w1 wA.heap.size (.slice a1 n1 m1) (rwC c L (⟨f.x, f.po, v, f.le⟩)) ∧ (rwC c L (⟨f.x, f.po, v, f.le⟩)).length = n1 ∧ Below wA.heap.size wA w1) := ⟨l1, k1, b1⟩
        have hS' : RvtAt w1 B c (some ⟨g, 0, none⟩) n m ∧ FloAt w1 OF (⟨f.x, f.po, v, f.le⟩) := ⟨hS.1.below b1, hS.2.below b1⟩
        clear hS l1 k1 b1
        have hS : RvtAt w1 B c (some ⟨g, 0, none⟩) n m ∧ FloAt w1 OF (⟨f.x, f.po, v, f.le⟩) := hS'
        clear hS'
        go_wp2_with fail
        refine ⟨rfl, hK _ _ hS ?_⟩
        clear hK K
        refine MixH.one [false, false, false, false, false, true] 3 5 _ rfl rfl (by kernel_rfl) (by kernel_rfl) (fun K hK => ?_)
        simp only [Mix.pick]
        go_wp2_with fail
        refine Calls.mono (outsideR_any c (some ⟨g, 0, none⟩) n m (⟨f.x, f.po, v, f.le⟩) w1) ?_
        rintro r2 w2 ⟨rfl, b2⟩
        have HC2 : Hid (FL w2 wA.heap.size (.slice a1 n1 m1) (rwC c L (⟨f.x, f.po, v, f.le⟩)) ∧ Below wA.heap.size wA w2) := ⟨HC.out.1.below b2, bthen HC.out.2.2 b2⟩
        have hS' : RvtAt w2 B c (some ⟨g, 0, none⟩) n m ∧ FloAt w2 OF (⟨f.x, f.po, v, f.le⟩) := ⟨hS.1.below b2, hS.2.below b2⟩
        clear hS b2
        have hS : RvtAt w2 B c (some ⟨g, 0, none⟩) n m ∧ FloAt w2 OF (⟨f.x, f.po, v, f.le⟩) := hS'
        clear hS'
        go_wp2_with fail
        refine ⟨rfl, hK _ _ hS ?_⟩
        clear hK K
        refine MixH.one [false, false, false, false, false, false, true] 2 6 _ rfl rfl (by kernel_rfl) (by kernel_rfl) (fun K hK => ?_)
        simp only [Mix.pick]
        go_wp2_with (refine wpList_store_rvt (.tmp 6) (.tmp 53) rfl rfl O cz none 0 0 c a1 n1 m1 rfl rfl (HA.out.2.2.1.below HC2.out.2) rfl ?_)
        intro w3 h3 k3
        have hS' : RvtAt w3 B c (some ⟨g, 0, none⟩) n m ∧ FloAt w3 OF (⟨f.x, f.po, v, f.le⟩) := ⟨hS.1.ch k3 (by have := HNUM.out; omega), hS.2.ch k3 (by have := HWS.out; omega)⟩
        have HE3 : Hid (RvtAt w3 O c a1 n1 m1 ∧ TupAt w3 O2 xz ∧ FL w3 wA.heap.size (.slice a1 n1 m1) (rwC c L (⟨f.x, f.po, v, f.le⟩)) ∧ Below w.heap.size w w3) := ⟨h3, (HA.out.2.2.2.1.below HC2.out.2).ch k3 (by have := HNUM.out; omega), HC2.out.1.ch k3 (fun q hq e => by have e' : q = O := e; have := fl_base HC2.out.1 hq; have := HWS.out; omega), (bthen HA.out.2.2.2.2 HC2.out.2).trans (k3.below (fun q hq => by have e' : q = O := hq; have := HNUM.out; omega) (bthen HA.out.2.2.2.2 HC2.out.2).size)⟩
        clear hS h3 k3
        have hS : RvtAt w3 B c (some ⟨g, 0, none⟩) n m ∧ FloAt w3 OF (⟨f.x, f.po, v, f.le⟩) := hS'
        clear hS'
        go_wp2_with fail
        refine ⟨rfl, hK _ _ hS ?_⟩
        clear hK K
        refine MixH.one [false, false, false, false, false, false, false, true] 1 7 _ rfl rfl (by kernel_rfl) (by kernel_rfl) (fun K hK => ?_)
        simp only [Mix.pick]
        go_wp2_with (refine wpList_store_tup (.tmp 7) (.tmp 56) rfl rfl O2 xz (ouT c (⟨f.x, f.po, v, f.le⟩)) rfl rfl HE3.out.2.1 rfl ?_)
        intro w4 h4 k4
        have hS' : RvtAt w4 B c (some ⟨g, 0, none⟩) n m ∧ FloAt w4 OF (⟨f.x, f.po, v, f.le⟩) := ⟨hS.1.ch k4 (by have := HNUM.out; omega), hS.2.ch k4 (by have := HWS.out; omega)⟩
        have HE4 : Hid (RvtAt w4 O c a1 n1 m1 ∧ TupAt w4 O2 (ouT c (⟨f.x, f.po, v, f.le⟩)) ∧ FL w4 w.heap.size (.slice a1 n1 m1) (rwC c L (⟨f.x, f.po, v, f.le⟩)) ∧ Below w.heap.size w w4) := ⟨HE3.out.1.ch k4 (by have := HNUM.out; omega), h4, (HE3.out.2.2.1.ch k4 (fun q hq e => by have e' : q = O2 := e; have := fl_base HE3.out.2.2.1 hq; have := HWS.out; omega)).mono (by have := HWS.out; have := HNUM.out; omega), HE3.out.2.2.2.trans (k4.below (fun q hq => by have e' : q = O2 := hq; have := HNUM.out; omega) HE3.out.2.2.2.size)⟩
        clear hS h4 k4
        have hS : RvtAt w4 B c (some ⟨g, 0, none⟩) n m ∧ FloAt w4 OF (⟨f.x, f.po, v, f.le⟩) := hS'
        clear hS'
        go_wp2_with fail
        refine ⟨rfl, hK _ _ hS ?_⟩
        clear hK K
        refine MixH.tks [false, false, false, false, false, false, false, false, true] 0 hS (fun K hK => ?_)
        simp only [Mix.pick]
        repeat (go_big_quiet_step (fail))
        refine wpQuiet_nil (hK _ ?_)
        clear hK K
        refine MixH.done (by kernel_rfl) ?_
        go_wp2_with fail
        refine bodyPost_ret (results_rtt3 rfl _ _ O O2 _ _ _ _ _ rfl rfl HE4.out.1 HE4.out.2.1) rfl ?_
        exact ⟨0, ouT c (⟨f.x, f.po, v, f.le⟩), rwC c L (⟨f.x, f.po, v, f.le⟩), a1, n1, m1, rfl, .inr (.inl ⟨HCK.out, f, find_at (p := fun g => eqP g.x x) HI.out.2 HIN.out.2 HEQ.out, .inr ⟨v, fun _ => ⟨by simpa using HE5.out, HV.out.symm⟩, fun h => absurd HPR.out.1 h, rfl, rfl, rfl⟩⟩), .inr HE4.out.2.2.1, HC.out.2.1, HE4.out.2.2.2⟩
   · have p1 : decide ((i : Int) < (n : Int)) = false := decide_eq_false (by omega)
     have p2 : decide (i < n) = false := decide_eq_false hin
     have c25 : wr.cell? ⟨B, 25, none⟩ = some (.slice a n m) := HI.out.1.1.cell 25
     have HNF' : Hid (L.find? (fun f => eqP f.x x) = none) := by
      have h1 := HI.out.2
      rw [List.take_of_length_le (by rw [HH.out.2.1]; omega)] at h1
      exact find_not h1
     clear hin hi
     have QB : Hid _ := beginR_any base c a n m L x fl wr HI.out.1.2.2.1 HH.out.2.1 HH.out.2.2.1 HH.out.2.2.2.2.2.2
     go_wp2_with (first | (refine wpList_load_rvt (.tmp 3) rfl B c a n m rfl HI.out.1.1 rfl ?_) | (refine wpList_load_tup (.tmp 4) rfl D x rfl HI.out.1.2.1 rfl ?_))
     refine Calls.mono QB.out ?_
     rintro r8 w8 ⟨f, er, rfl, q1, q2, b8⟩
     have HF8 : Hid (rbE c L x fl = er ∧ (er = 0 → f = ⟨x, prt c L x, if (x.pr == 6) = true then 1 else 7, 0⟩)) := ⟨q1, q2⟩
     have H8 : Hid (RvtAt w8 B c a n m ∧ TupAt w8 D x ∧ FL w8 base (.slice a n m) L ∧ RvtAt w8 O cz none 0 0 ∧ TupAt w8 O2 xz ∧ TupAt w8 NO xz ∧ Below w.heap.size w w8) := ⟨HI.out.1.1.below b8, HI.out.1.2.1.below b8, HI.out.1.2.2.1.below b8, HI.out.1.2.2.2.1.below b8, HI.out.1.2.2.2.2.1.below b8, HI.out.1.2.2.2.2.2.1.below b8, bthen HI.out.1.2.2.2.2.2.2 b8⟩
     clear q1 q2 b8 QB
     obtain ⟨Yf, OF, -, HOF, HLF, HEF, hb⟩ := zBx w8 (flC fz0) 72
     have HNF : Hid (FloAt Yf OF fz0) := hb
     clear hb
     obtain ⟨e5, h5⟩ : ∃ b, (er != 0) = b := ⟨_, rfl⟩
     have HE5 : Hid ((er != 0) = e5) := h5
     go_upto_region 16 with (first | (refine wpList_alloc_flo rfl rfl ?_; rw [HEF.out, HOF.out]) | (refine wpList_store_flo (.tmp 13) (.tmp 62) rfl rfl OF fz0 f rfl rfl HNF.out rfl ?_; intro w2 h2 k2))
     have HOF8 : w8.heap.size = OF := HOF.out
     have HOF : Hid (NO < OF) := by have h6 := HOF.out; have h7 := H8.out.2.2.2.2.2.1.lt; show _ < _; omega
     have H9 : Hid ((RvtAt w2 B c a n m ∧ TupAt w2 D x ∧ FL w2 base (.slice a n m) L ∧ RvtAt w2 O cz none 0 0 ∧ TupAt w2 O2 xz ∧ TupAt w2 NO xz ∧ Below w.heap.size w w2) ∧ FloAt w2 OF f) := by
      obtain ⟨q1, q2, q3, q4, q5⟩ := HNUM.out
      have q6 := HOF.out
      have hfl : ∀ q, (Value.slice a n m).ownBlock = some q → q ≠ OF := fun q hq e => by have := fl_lt HH.out.1 hq; omega
      have b9 : Below w8.heap.size w8 w2 := HLF.out.trans (k2.below (fun q hq => by have e' : q = OF := hq; omega) HLF.out.size)
      exact ⟨⟨H8.out.1.below b9, H8.out.2.1.below b9, H8.out.2.2.1.below b9, H8.out.2.2.2.1.below b9, H8.out.2.2.2.2.1.below b9, H8.out.2.2.2.2.2.1.below b9, bthen H8.out.2.2.2.2.2.2 b9⟩, h2⟩
     clear h2 k2 HOF8
     cases e5 with
     | true =>
      go_upto_region 17 with fail
      refine MixH.start (fun A => RvtAt A B c a n m ∧ TupAt A NO xz) (by kernel_rfl) ?_
      obtain ⟨wA, hwA⟩ : ∃ wA, wA = w2.drew := ⟨_, rfl⟩
      have bdr := zDr hwA
      have HA : Hid (RvtAt wA B c a n m ∧ TupAt wA D x ∧ FL wA base (.slice a n m) L ∧ RvtAt wA O cz none 0 0 ∧ TupAt wA O2 xz ∧ TupAt wA NO xz ∧ Below w.heap.size w wA) := ⟨H9.out.1.1.below bdr, H9.out.1.2.1.below bdr, H9.out.1.2.2.1.below bdr, H9.out.1.2.2.2.1.below bdr, H9.out.1.2.2.2.2.1.below bdr, H9.out.1.2.2.2.2.2.1.below bdr, bthen H9.out.1.2.2.2.2.2.2 bdr⟩
      have hS : RvtAt wA B c a n m ∧ TupAt wA NO xz := ⟨HA.out.1, HA.out.2.2.2.2.2.1⟩
      rw [← hwA]
      clear hwA bdr
      refine MixH.tks [false, false, true] 5 hS (fun K hK => ?_)
      simp only [Mix.pick]
      repeat (go_big_quiet_step (fail))
      refine wpQuiet_nil (hK _ ?_)
      clear hK K
      refine MixH.tk 4 0 rfl (.agg (rvC c a n m)) (yields_rvt (.tmp 3) rfl B 0 c a n m rfl rfl (fun A hA => hA.1.all)) hS (fun a' ha => ?_)
      simp only [zP1, zP2, zP3, zP4] at ha
      subst ha
      refine MixH.tk 3 1 rfl (.agg (tuC xz)) (yields_tup (.tmp 9) rfl NO 0 xz rfl rfl (fun A hA => hA.2.all)) hS (fun a' ha => ?_)
      simp only [zP1, zP2, zP3, zP4] at ha
      subst ha
      refine MixH.one [false, false, false, true] 2 3 _ rfl rfl (by kernel_rfl) (by kernel_rfl) (fun K hK => ?_)
      simp only [Mix.pick]
      go_wp2_with (refine wpList_store_rvt (.tmp 6) (.tmp 66) rfl rfl O cz none 0 0 c a n m rfl rfl HA.out.2.2.2.1 rfl ?_)
      intro w3 h3 k3
      have hS : RvtAt w3 B c a n m ∧ TupAt w3 NO xz := ⟨HA.out.1.ch k3 (by have := HNUM.out; omega), HA.out.2.2.2.2.2.1.ch k3 (by have := HNUM.out; omega)⟩
      have HE3 : Hid (RvtAt w3 O c a n m ∧ TupAt w3 O2 xz ∧ Below w.heap.size w w3) := ⟨h3, HA.out.2.2.2.2.1.ch k3 (by have := HNUM.out; omega), HA.out.2.2.2.2.2.2.trans (k3.below (fun q hq => by have e' : q = O := hq; have := HNUM.out; omega) HA.out.2.2.2.2.2.2.size)⟩
      clear h3 k3
      go_wp2_with fail
      refine ⟨rfl, hK _ _ hS ?_⟩
      clear hK K
      refine MixH.one [false, false, false, false, true] 1 4 _ rfl rfl (by kernel_rfl) (by kernel_rfl) (fun K hK => ?_)
      simp only [Mix.pick]
      go_wp2_with (refine wpList_store_tup (.tmp 7) (.tmp 67) rfl rfl O2 xz xz rfl rfl HE3.out.2.1 rfl ?_)
      intro w4 h4 k4
      have hS' : RvtAt w4 B c a n m ∧ TupAt w4 NO xz := ⟨hS.1.ch k4 (by have := HNUM.out; omega), hS.2.ch k4 (by have := HNUM.out; omega)⟩
      have HE4 : Hid (RvtAt w4 O c a n m ∧ TupAt w4 O2 xz ∧ Below w.heap.size w w4) := ⟨HE3.out.1.ch k4 (by have := HNUM.out; omega), h4, HE3.out.2.2.trans (k4.below (fun q hq => by have e' : q = O2 := hq; have := HNUM.out; omega) HE3.out.2.2.size)⟩
      clear hS h4 k4
      have hS : RvtAt w4 B c a n m ∧ TupAt w4 NO xz := hS'
      clear hS'
      go_wp2_with fail
      refine ⟨rfl, hK _ _ hS ?_⟩
      clear hK K
      refine MixH.tks [false, false, false, false, false, true] 0 hS (fun K hK => ?_)
      simp only [Mix.pick]
      repeat (go_big_quiet_step (fail))
      refine wpQuiet_nil (hK _ ?_)
      clear hK K
      refine MixH.done (by kernel_rfl) ?_
      go_wp2_with fail
      refine bodyPost_ret (results_rtt3 rfl _ _ O O2 _ _ _ _ _ rfl rfl HE4.out.1 HE4.out.2.1) rfl ?_
      exact ⟨er, xz, L, a, n, m, rfl, .inr (.inr ⟨HCK.out, HNF'.out, .inl ⟨by rw [HF8.out.1]; simpa using HE5.out, HF8.out.1.symm, rfl, rfl⟩⟩), .inl ⟨rfl, rfl, rfl, rfl⟩, HH.out.2.1, HE4.out.2.2⟩
     | false =>
      have HER : Hid (er = 0) := by show _ = _; simpa using HE5.out
      have HFV : Hid (f = ⟨x, prt c L x, if (x.pr == 6) = true then 1 else 7, 0⟩) := HF8.out.2 HER.out
      have HWF : Hid (f.x.Wf) := by show f.x.Wf; rw [HFV.out]; exact HH.out.2.2.2.1
      go_upto_region 18 with fail
      refine MixH.start (fun A => RvtAt A B c a n m ∧ FloAt A OF (f)) (by kernel_rfl) ?_
      obtain ⟨wA, hwA⟩ : ∃ wA, wA = w2.drew := ⟨_, rfl⟩
      have bdr := zDr hwA
      have hS : RvtAt wA B c a n m ∧ FloAt wA OF (f) := ⟨H9.out.1.1.below bdr, H9.out.2.below bdr⟩
      have HA : Hid ((RvtAt wA B c a n m ∧ FloAt wA OF (f)) ∧ FL wA base (.slice a n m) L ∧ RvtAt wA O cz none 0 0 ∧ TupAt wA O2 xz ∧ Below w.heap.size w wA) := ⟨hS, H9.out.1.2.2.1.below bdr, H9.out.1.2.2.2.1.below bdr, H9.out.1.2.2.2.2.1.below bdr, bthen H9.out.1.2.2.2.2.2.2 bdr⟩
      have HWS : Hid (NO < OF ∧ OF < wA.heap.size ∧ B < O ∧ O < O2 ∧ O2 < NO ∧ w.heap.size ≤ wA.heap.size) := ⟨HOF.out, hS.2.lt, by have := HNUM.out; omega, by have := HNUM.out; omega, by have := HNUM.out; omega, HA.out.2.2.2.2.size⟩
      have HA : Hid ((RvtAt wA B c a n m ∧ FloAt wA OF (f)) ∧ FL wA base (.slice a n m) L ∧ RvtAt wA O cz none 0 0 ∧ TupAt wA O2 xz ∧ Below w.heap.size w wA) := HA
      rw [← hwA]
      clear hwA bdr
      refine MixH.tk 8 0 rfl (.agg (rvC c a n m)) (yields_rvt (.tmp 3) rfl B 0 c a n m rfl rfl (fun A hA => hA.1.all)) hS (fun a' ha => ?_)
      simp only [zP1, zP2, zP3, zP4] at ha
      subst ha
      refine MixH.tk 7 1 rfl (.agg (flC (f))) (yields_flo (.tmp 13) rfl OF 0 (f) rfl rfl (fun A hA => flo_all hA.2)) hS (fun a' ha => ?_)
      simp only [zP1, zP2, zP3, zP4] at ha
      subst ha
      refine MixH.tk 6 3 rfl (.agg (rvC c a n m)) (yields_rvt (.tmp 3) rfl B 0 c a n m rfl rfl (fun A hA => hA.1.all)) hS (fun a' ha => ?_)
      simp only [zP1, zP2, zP3, zP4] at ha
      subst ha
      refine MixH.tk 5 4 rfl (.agg (flC (f))) (yields_flo (.tmp 13) rfl OF 0 (f) rfl rfl (fun A hA => flo_all hA.2)) hS (fun a' ha => ?_)
      simp only [zP1, zP2, zP3, zP4] at ha
      subst ha
      refine MixH.one [false, false, true] 4 2 _ rfl rfl (by kernel_rfl) (by kernel_rfl) (fun K hK => ?_)
      simp only [Mix.pick]
      go_wp2_with fail
      refine Calls.mono (withR_any base c a n m L (f) wA HA.out.2.1 HH.out.2.1 HH.out.2.2.1 ⟨HWF.out, HH.out.2.2.2.2.1⟩) ?_
      rintro r1 w1 ⟨a1, n1, m1, rfl, l1, k1, b1⟩
      have HC : Hid (FL w1 wA.heap.size (.slice a1 n1 m1) (rwC c L (f)) ∧ (rwC c L (f)).length = n1 ∧ Below wA.heap.size wA w1) := ⟨l1, k1, b1⟩
      have hS' : RvtAt w1 B c a n m ∧ FloAt w1 OF (f) := ⟨hS.1.below b1, hS.2.below b1⟩
      clear hS l1 k1 b1
      have hS : RvtAt w1 B c a n m ∧ FloAt w1 OF (f) := hS'
      clear hS'
      go_wp2_with fail
      refine ⟨rfl, hK _ _ hS ?_⟩
      clear hK K
      refine MixH.one [false, false, false, false, false, true] 3 5 _ rfl rfl (by kernel_rfl) (by kernel_rfl) (fun K hK => ?_)
      simp only [Mix.pick]
      go_wp2_with fail
      refine Calls.mono (outsideR_any c a n m (f) w1) ?_
      rintro r2 w2 ⟨rfl, b2⟩
      have HC2 : Hid (FL w2 wA.heap.size (.slice a1 n1 m1) (rwC c L (f)) ∧ Below wA.heap.size wA w2) := ⟨HC.out.1.below b2, bthen HC.out.2.2 b2⟩
      have hS' : RvtAt w2 B c a n m ∧ FloAt w2 OF (f) := ⟨hS.1.below b2, hS.2.below b2⟩
      clear hS b2
      have hS : RvtAt w2 B c a n m ∧ FloAt w2 OF (f) := hS'
      clear hS'
      go_wp2_with fail
      refine ⟨rfl, hK _ _ hS ?_⟩
      clear hK K
      refine MixH.one [false, false, false, false, false, false, true] 2 6 _ rfl rfl (by kernel_rfl) (by kernel_rfl) (fun K hK => ?_)
      simp only [Mix.pick]
      go_wp2_with (refine wpList_store_rvt (.tmp 6) (.tmp 71) rfl rfl O cz none 0 0 c a1 n1 m1 rfl rfl (HA.out.2.2.1.below HC2.out.2) rfl ?_)
      intro w3 h3 k3
      have hS' : RvtAt w3 B c a n m ∧ FloAt w3 OF (f) := ⟨hS.1.ch k3 (by have := HNUM.out; omega), hS.2.ch k3 (by have := HWS.out; omega)⟩
      have HE3 : Hid (RvtAt w3 O c a1 n1 m1 ∧ TupAt w3 O2 xz ∧ FL w3 wA.heap.size (.slice a1 n1 m1) (rwC c L (f)) ∧ Below w.heap.size w w3) := ⟨h3, (HA.out.2.2.2.1.below HC2.out.2).ch k3 (by have := HNUM.out; omega), HC2.out.1.ch k3 (fun q hq e => by have e' : q = O := e; have := fl_base HC2.out.1 hq; have := HWS.out; omega), (bthen HA.out.2.2.2.2 HC2.out.2).trans (k3.below (fun q hq => by have e' : q = O := hq; have := HNUM.out; omega) (bthen HA.out.2.2.2.2 HC2.out.2).size)⟩
      clear hS h3 k3
      have hS : RvtAt w3 B c a n m ∧ FloAt w3 OF (f) := hS'
      clear hS'
      go_wp2_with fail
      refine ⟨rfl, hK _ _ hS ?_⟩
      clear hK K
      refine MixH.one [false, false, false, false, false, false, false, true] 1 7 _ rfl rfl (by kernel_rfl) (by kernel_rfl) (fun K hK => ?_)
      simp only [Mix.pick]
      go_wp2_with (refine wpList_store_tup (.tmp 7) (.tmp 74) rfl rfl O2 xz (ouT c (f)) rfl rfl HE3.out.2.1 rfl ?_)
      intro w4 h4 k4
      have hS' : RvtAt w4 B c a n m ∧ FloAt w4 OF (f) := ⟨hS.1.ch k4 (by have := HNUM.out; omega), hS.2.ch k4 (by have := HWS.out; omega)⟩
      have HE4 : Hid (RvtAt w4 O c a1 n1 m1 ∧ TupAt w4 O2 (ouT c (f)) ∧ FL w4 w.heap.size (.slice a1 n1 m1) (rwC c L (f)) ∧ Below w.heap.size w w4) := ⟨HE3.out.1.ch k4 (by have := HNUM.out; omega), h4, (HE3.out.2.2.1.ch k4 (fun q hq e => by have e' : q = O2 := e; have := fl_base HE3.out.2.2.1 hq; have := HWS.out; omega)).mono (by have := HWS.out; have := HNUM.out; omega), HE3.out.2.2.2.trans (k4.below (fun q hq => by have e' : q = O2 := hq; have := HNUM.out; omega) HE3.out.2.2.2.size)⟩
      clear hS h4 k4
      have hS : RvtAt w4 B c a n m ∧ FloAt w4 OF (f) := hS'
      clear hS'
      go_wp2_with fail
      refine ⟨rfl, hK _ _ hS ?_⟩
      clear hK K
      refine MixH.tks [false, false, false, false, false, false, false, false, true] 0 hS (fun K hK => ?_)
      simp only [Mix.pick]
      repeat (go_big_quiet_step (fail))
      refine wpQuiet_nil (hK _ ?_)
      clear hK K
      refine MixH.done (by kernel_rfl) ?_
      go_wp2_with fail
      refine bodyPost_ret (results_rtt3 rfl _ _ O O2 _ _ _ _ _ rfl rfl HE4.out.1 HE4.out.2.1) rfl ?_
      exact ⟨0, ouT c (f), rwC c L (f), a1, n1, m1, rfl, .inr (.inr ⟨HCK.out, HNF'.out, .inr ⟨by rw [HF8.out.1]; exact HER.out, rfl, f, HFV.out, rfl, rfl⟩⟩), .inr HE4.out.2.2.1, HC.out.2.1, HE4.out.2.2.2⟩
end Go.Proofs.YtclpeepnngegaaaGreatDoor
