/-
  IcmpParses: the walk.
-/
import Derived.Test.YtkhalknpfikghaaDoorIcmpWritesWalk
import Derived.Laws.BitsAllLaws
namespace Go.Proofs.YtkhalknpfikghaaDoor
open Go.RowKit
open I8 (M8)

/-- 'append(v, x...)' where v is a window without room behind it -/
theorem append_win {P : Program} {w : World} {ops : Array Oper} {rest : List Oper} {o : Oper} {a : Act} {Q : Exit → Act → World → Prop} (hgd : o.guard = none) (s x : Operand) (t : TypeId)
    (ho : o.op = .call { callee := .builtin .append, args := #[s, x], argTypes := #[t, t] })
    (e : TypeId) (i : TypeInfo) (z : Value) (bytes : Nat) (ht : P.underlying t = some (.slice e)) (hi : P.info? e = some i) (hz : i.zero = some z)
    (hsize : i.size = 1) (hby : i.bytes = bytes) (hzs : z.cells.size = 1)
    (va : Option Addr) (n : Nat) (l : List Int) (hs : a.eval s = .slice va n n) (hl : l.length = n) (hseg : Seg .u8 w va l) (hva : va = none → n = 0)
    (ad : Addr) (m c : Nat) (zs : List Int) (hx : a.eval x = .slice (some ad) m c) (hm : zs.length = m) (hsg : Seg .u8 w (some ad) zs) (h0 : 0 < m)
    (h63 : n + m ≤ maxLen) (hbytes : (n + m) * bytes ≤ 140737488355328)
    (h : ∀ v' w', w'.ownsRow w.heap.size e 1 v' (n + m) ((l ++ zs).map (Value.int .u8)) → Below w.heap.size w w' → wpList P ops Q rest (a.put o.dst v') w') : wpList P ops Q (o :: rest) a w := by
  cases va with
  | none =>
    have hn0 := hva rfl
    have hl0 : l = [] := List.eq_nil_of_length_eq_zero (by omega)
    subst hn0
    subst hl0
    exact append_new hgd s x t ho e i z bytes ht hi hz hsize hby hzs w.heap.size none 0 [] hs (World.ownsRow_nil _ _ _ _) ad m c zs hx hm hsg h0 h63 hbytes h
  | some ao =>
    refine wpList_append_full hgd s x t ho e i z bytes ht hi hz hsize hby hzs .u8 ao n l hs hl hseg ad m c (zs.map (Value.int .u8)) hx (by simpa using hm) ?_ h0 h63 hbytes ?_
    · intro j u hu
      have hj : j < zs.length := by simpa using (List.getElem?_eq_some_iff.1 hu).1
      rcases hsg with hn | ⟨b, off, e1, hc⟩
      · rw [hn] at hj; simp at hj
      · simp only [Option.some.injEq] at e1
        subst e1
        rw [Addr.add_lit, hc j hj]
        simp [List.getElem?_eq_getElem hj] at hu
        rw [← hu]
        simp [List.getD, hj]
    · intro v' w' ho' hg
      refine h v' w' ?_ ((Below.refl _ _).grown hg (Nat.le_refl _) (by intro k hk; simp at hk))
      rw [List.map_append]
      exact ho'
theorem seg_ne_m8 {w : World} {O : Nat} {m : M8} {da : Option Addr} {n c : Nat} {va : Option Addr} {l : List Int} (h : MAt w O m da n c) (hs : Seg .u8 w va l) (z : Addr) (hl : l ≠ []) (hz : va = some z) : z.block ≠ O := by
  rcases hs with h0 | ⟨b, off, e, hc⟩
  · exact absurd h0 hl
  · rw [hz] at e
    have e' := Option.some.inj e
    subst e'
    intro hO
    have hO' : b = O := hO
    subst hO'
    have h1 := hc 0 (List.length_pos_iff.2 hl)
    rw [h.cell] at h1
    simp only [mC, Nat.add_zero] at h1
    match off, h1 with
    | 0, h1 => simp at h1
    | 1, h1 => simp at h1
    | 2, h1 => simp at h1
    | 3, h1 => simp at h1
    | 4, h1 => simp at h1
    | o + 5, h1 => simp at h1
/-- what was read, in one form -/
def rdM (er : Nat) (v : Int) (bs : List Nat) : M8 := if er = 0 then I8.pM v bs else m8z
def rdN (er N : Nat) : Nat := if er = 0 then N - 8 else 0
theorem u8_xor255 (a : Nat) (ha : a < 256) : bits .xor .u8 (a : Int) 255 = ((a ^^^ 255 : Nat) : Int) := u8_xor_nat a 255 ha (by decide)
theorem set_back (l : List Nat) (i y : Nat) (h : i < l.length) : (l.set i y).set i (l.getD i 0) = l := by
  rw [List.set_set]
  have : l.getD i 0 = l[i] := by simp [List.getD, h]
  rw [this, List.set_getElem_self]
set_option maxHeartbeats 12800000 in
set_option maxRecDepth 100000 in
theorem icmpParses.walk (w : World) (hw : Wid8 w) (hd : Dis8 w) (v V : Int) (x : Nat → Nat) (hx : ∀ i, i < 16 → x i < 256) (U : Int) (y : Nat → Nat) (hy : ∀ i, i < 16 → y i < 256) (a : Option Addr) (len cap : Nat) (bs0 : List Nat) (hn : bs0.length = len) (hs : Seg .u8 w a (toI bs0)) (h256 : ∀ z ∈ bs0, z < 256) (hcap : len ≤ cap) :
    Calls Tryd.prog 4 #[.int .i64 v, .agg (ipCells V x), .agg (ipCells U y), .slice a len cap] w fun e w' => e = .returned (.bool true) ∧ Below w.heap.size w w' := by
  obtain ⟨i0, hi, hz0, hz1, hz2⟩ := info_parts Tryd.infoByte
  obtain ⟨A, hA⟩ : ∃ A, A = ipCells V x := ⟨_, rfl⟩
  obtain ⟨C, hC⟩ : ∃ C, C = ipCells U y := ⟨_, rfl⟩
  have hx1 := boxed_new w V x 24
  have hy1 := boxed_new (w.alloc (.cells (ipCells V x) 24)) U y 24
  rw [World.size_alloc] at hy1
  have hx2 := hx1.old ((Below.refl _ _).alloc (Nat.le_refl _) (.cells (ipCells U y) 24))
  have bel : Below w.heap.size w ((w.alloc (.cells (ipCells V x) 24)).alloc (.cells (ipCells U y) 24)) := ((Below.refl _ _).alloc (Nat.le_refl _) _).alloc (by simp) _
  clear hx1
  rw [← hA] at hx2 hy1 bel ⊢
  rw [← hC] at hx2 hy1 bel ⊢
  obtain ⟨W, hW⟩ : ∃ W, W = (w.alloc (.cells A 24)).alloc (.cells C 24) := ⟨_, rfl⟩
  rw [← hW] at hx2 hy1 bel
  obtain ⟨B, hB⟩ : ∃ B, B = w.heap.size := ⟨_, rfl⟩
  have HB : Hid (w.heap.size = B) := hB.symm
  rw [← hB] at hx2 hy1
  have HW : Hid ((w.alloc (.cells A 24)).alloc (.cells C 24) = W) := hW.symm
  have HXB : Hid (Boxed W B V x) := hx2
  have HYB : Hid (Boxed W (B + 1) U y) := hy1
  have HXX : Hid (∀ i, i < 16 → x i < 256) := hx
  have HYY : Hid (∀ i, i < 16 → y i < 256) := hy
  have HWID : Hid (∀ A, Below w.heap.size w A → Wid8 A) := fun A hA => hw.old hA
  have HDIS : Hid (∀ A, Below w.heap.size w A → Dis8 A) := fun A hA => hd.old hA
  have HSEG0 : Hid (∀ A, Below w.heap.size w A → Seg .u8 A a (toI bs0)) := fun A hA => hs.old hA
  have HN0 : Hid (bs0.length = len) := hn
  have H0256 : Hid (∀ z ∈ bs0, z < 256) := h256
  have QA : Hid _ := awake_any W (hw.old bel) (hd.old bel)
  clear hW hx2 hy1 hx hy hw hA hC hB hn hs h256 hd
  go_enter Tryd.func4, Tryd.ntmps4
  go_upto_region 1 with fail
  rw [HB.out, HW.out]
  go_wp2_with fail
  refine Calls.mono QA.out ?_
  rintro e w1 ⟨rfl, hb1⟩
  have bel1 := bthen bel hb1
  have HX1 : Hid (Boxed w1 B V x) := HXB.out.old hb1
  have HY1 : Hid (Boxed w1 (B + 1) U y) := HYB.out.old hb1
  have QL : Hid _ := laid8_any a len cap bs0 w1 HN0.out (HSEG0.out w1 bel1) hcap
  clear hb1 QA HXB HYB HW
  go_wp2_with fail
  refine Calls.mono QL.out ?_
  rintro e w3 ⟨g, gc, N, rfl, hN, hN6, hown, hb3⟩
  have bel3 := bthen bel1 hb3
  obtain ⟨bs, hbs⟩ : ∃ bs, bs = cut6 bs0 := ⟨_, rfl⟩
  rw [← hbs] at hown hN
  have H256 : Hid (∀ z ∈ bs, z < 256) := by rw [hbs]; exact fun z hz => H0256.out z (List.mem_of_mem_take hz)
  have HN : Hid (bs.length = N) := hN.symm
  have HGL : Hid (w1.heap.size ≤ g ∧ g < w3.heap.size) := hown.lt g rfl
  have HWG : Hid (w.heap.size ≤ g) := Nat.le_trans bel1.size (hown.lt g rfl).1
  have HOW3 : Hid (OwnB w3 w1.heap.size (.slice (some ⟨g, 0, none⟩) (N + 5) gc) (N + 5) (bs ++ lMarks)) := hown
  have HCC : Hid (N + 5 ≤ gc ∧ gc ≤ 9223372036854775807) := (owns_seg_at hown).2
  have HX3 : Hid (Boxed w3 B V x) := HX1.out.old hb3
  have HY3 : Hid (Boxed w3 (B + 1) U y) := HY1.out.old hb3
  have HLL : Hid ((bs ++ lMarks).length = N + 5) := by show _ = _; rw [List.length_append, HN.out]; rfl
  have QC1 : Hid _ := copied8_any (some ⟨g, 0, none⟩) (N + 5) gc (bs ++ lMarks) w3 HLL.out (owns_seg_at hown).1 (by omega)
  have HIN : Hid (∀ A, Seg .u8 A (some ⟨g, 0, none⟩) (toI (bs ++ lMarks)) → Seg .u8 A (some ⟨g, 0, none⟩) (toI bs)) := fun A hA => by
    have h1 := hA.part0 N (by rw [toI_len, HLL.out]; omega)
    rw [toI_take, ← HN.out, List.take_left'] at h1
    · exact h1
    · rfl
  clear hbs hown hN hb3 QL HX1 HY1 bel1
  go_wp2_with fail
  refine Calls.mono QC1.out ?_
  rintro e w4 ⟨vw, rfl, how, hb4⟩
  have bel4 := bthen bel3 hb4
  obtain ⟨wa, wcp, hww⟩ := owns_shape how
  obtain ⟨ga, gcp, hga, hgc1, hgc2⟩ := own_block how (by omega)
  subst hga
  have HWAS4 : Hid (OwnB w4 w3.heap.size (.slice (some ⟨ga, 0, none⟩) (N + 5) gcp) (N + 5) (bs ++ lMarks)) := how
  have HGG : Hid (g ≠ ga) := by have h1 := (how.lt ga rfl).1; have h2 := HGL.out.2; show g ≠ ga; omega
  have HX4 : Hid (Boxed w4 B V x) := HX3.out.old hb4
  have HY4 : Hid (Boxed w4 (B + 1) U y) := HY3.out.old hb4
  have HOW4 : Hid (OwnB w4 w1.heap.size (.slice (some ⟨g, 0, none⟩) (N + 5) gc) (N + 5) (bs ++ lMarks)) := own_below HOW3.out hb4
  have QP : Hid _ := icParse_any v V U x y (some ⟨g, 0, none⟩) N gc bs w4 HN.out (HWID.out w4 bel4) (fun _ => HIN.out w4 (owns_seg_at HOW4.out).1) H256.out (by have := HCC.out; omega) HCC.out.2 HXX.out HYY.out
  clear how hww hb4 QC1 HX3 HY3 HOW3 bel3
  go_wp2_with (first | (refine wpList_load_ip (.tmp 5) rfl B V x rfl HX4.out rfl ?_) | (refine wpList_load_ip (.tmp 6) rfl (B + 1) U y rfl HY4.out rfl ?_))
  refine Calls.mono QP.out ?_
  rintro e w5 ⟨er, rfl, hb5, her⟩
  have bel5 := bthen bel4 hb5
  have HX5 : Hid (Boxed w5 B V x) := HX4.out.old hb5
  have HY5 : Hid (Boxed w5 (B + 1) U y) := HY4.out.old hb5
  have HOW5 : Hid (OwnB w5 w1.heap.size (.slice (some ⟨g, 0, none⟩) (N + 5) gc) (N + 5) (bs ++ lMarks)) := own_below HOW4.out hb5
  have HWAS5 : Hid (OwnB w5 w3.heap.size (.slice (some ⟨ga, 0, none⟩) (N + 5) gcp) (N + 5) (bs ++ lMarks)) := own_below HWAS4.out hb5
  have HER : Hid (er = I8.pE v (six6 V U) (psB v V U x y N) bs) := her
  obtain ⟨mm, hmm⟩ : ∃ mm, mm = rdM er v bs := ⟨_, rfl⟩
  obtain ⟨nn, hnn⟩ : ∃ nn, nn = rdN er N := ⟨_, rfl⟩
  have HPM : Hid (mm = rdM er v bs) := hmm
  have HPN : Hid (nn = rdN er N) := hnn
  have hbig : er = 0 → 8 ≤ N := fun h => by have := (I8.pE_zero (by rw [← her]; exact h)).2.2.2.1; rw [HN.out] at this; exact this
  have HDL : Hid (mm.d.length = nn) := by
    show _ = _
    rw [hmm, hnn]
    unfold rdM rdN
    split
    · show (bs.drop 8).length = _; rw [List.length_drop, HN.out]
    · rfl
  obtain ⟨xa, hxa⟩ : ∃ xa, xa = if er = 0 then cutA (some ⟨g, 0, none⟩) 8 (N - 8) else none := ⟨_, rfl⟩
  have ePC : pC er v (some ⟨g, 0, none⟩) N bs = mC mm xa nn nn := by
    unfold pC
    rw [hmm, hnn, hxa]
    unfold rdM rdN
    split <;> rfl
  rw [ePC]
  have hnn6 : nn ≤ 66000 := by rw [hnn]; unfold rdN; split <;> omega
  have HNB : Hid (nn ≠ 0 → nn + 8 = N ∧ xa = some ⟨g, 8, none⟩ ∧ mm.d = bs.drop 8) := by
    intro h
    by_cases h0 : er = 0
    · have h8 := hbig h0
      have e1 : nn = N - 8 := by rw [hnn]; unfold rdN; rw [if_pos h0]
      refine ⟨by omega, ?_, by rw [hmm]; unfold rdM; rw [if_pos h0]; rfl⟩
      rw [hxa, if_pos h0]
      unfold cutA
      rw [if_neg (by omega)]
      rfl
    · exact absurd (by rw [hnn]; unfold rdN; rw [if_neg h0]) h
  have HXN : Hid (xa = none → nn = 0) := by
    intro h
    by_cases h0 : er = 0
    · rw [hxa, if_pos h0] at h
      unfold cutA at h
      split at h <;> cases h
    · rw [hnn]; unfold rdN; rw [if_neg h0]
  have HXS : Hid (∀ A, Seg .u8 A (some ⟨g, 0, none⟩) (toI (bs ++ lMarks)) → Seg .u8 A xa (toI mm.d)) := fun A hA => by
    by_cases h : nn = 0
    · have : mm.d = [] := List.length_eq_zero_iff.1 (by rw [HDL.out]; exact h)
      exact .inl (by rw [this]; rfl)
    · obtain ⟨h1, h2, h3⟩ := HNB.out h
      have q := (HIN.out A hA).part 8 nn (by rw [toI_len, HN.out]; omega)
      rw [toI_drop, toI_take, List.take_of_length_le (by rw [List.length_drop, HN.out]; omega)] at q
      rw [h2, h3]
      exact q
  clear hmm hnn hxa ePC hbig her hb5 QP HX4 HY4 HOW4 HWAS4 bel4
  go_upto_region 6 with (first | (refine wpList_alloc_m8 rfl rfl ?_) | (refine wpList_store_m8 (.tmp 12) (.tmp 33) rfl rfl w5.heap.size m8z mm none xa 0 0 nn nn rfl rfl (mAt_new _ _ _ _ _) rfl ?_))
  intro w6 hR6 k6
  have hb6 : Below w5.heap.size w5 w6 := ((Below.refl _ _).alloc (Nat.le_refl _) _).trans (k6.below (fun q e => by have e' : q = w5.heap.size := e; omega) (by simp))
  have bel6 := bthen bel5 hb6
  obtain ⟨P, hP⟩ : ∃ P, P = w5.heap.size := ⟨_, rfl⟩
  rw [← hP] at hR6 ⊢
  have HGP : Hid (g ≠ P ∧ ga ≠ P) := by
    have h1 := (HOW5.out.lt g rfl).2
    have h2 := (HWAS5.out.lt ga rfl).2
    exact ⟨by omega, by omega⟩
  have HM6 : Hid (MAt w6 P mm xa nn nn) := hR6
  have HX6 : Hid (Boxed w6 B V x) := HX5.out.old hb6
  have HY6 : Hid (Boxed w6 (B + 1) U y) := HY5.out.old hb6
  have HOW6 : Hid (OwnB w6 w1.heap.size (.slice (some ⟨g, 0, none⟩) (N + 5) gc) (N + 5) (bs ++ lMarks)) := own_below HOW5.out hb6
  have HWAS6 : Hid (OwnB w6 w3.heap.size (.slice (some ⟨ga, 0, none⟩) (N + 5) gcp) (N + 5) (bs ++ lMarks)) := own_below HWAS5.out hb6
  clear hR6 k6 hb6 hP HX5 HY5 HOW5 HWAS5 bel5
  have HQC : Hid (∀ A, Below w6.heap.size w6 A → Calls Tryd.prog 13 #[.slice (some ⟨g, 0, none⟩) N gc] A fun e w' => ∃ v, e = .returned v ∧ w'.ownsRow A.heap.size 5 1 v N ((toI bs).map (Value.int .u8)) ∧ Below A.heap.size A w') := fun A hA => copied8_any (some ⟨g, 0, none⟩) N gc bs A HN.out (HIN.out A ((owns_seg_at HOW6.out).1.old hA)) (by omega)
  have HQR : Hid (∀ A (ra : Option Addr) (rc : Nat), OwnB A w6.heap.size (.slice ra N rc) N bs → Calls Tryd.prog 14 #[.int .i64 v, .agg (ipCells V x), .agg (ipCells U y), .slice ra N rc] A fun e w' => ∃ va vc, e = .returned (.tuple #[.agg (mC mm va nn vc), .int .i64 (er : Nat)]) ∧ Below A.heap.size A w' ∧ Seg .u8 w' va (toI mm.d)) := by
    intro A ra rc hA
    obtain ⟨q1, q2, q3⟩ := owns_seg_at hA
    refine (rParse_any v V U x y ra N rc bs A HN.out (fun _ => q1) H256.out q2 q3 HXX.out HYY.out).mono ?_
    rintro e w' ⟨er2, va, vc, rfl, hb, he, hsg⟩
    obtain rfl : er2 = er := by rw [he, HER.out]
    rw [HPM.out, HPN.out]
    unfold rdM rdN
    split
    · rename_i h0
      exact ⟨va, vc, rfl, hb, hsg h0⟩
    · exact ⟨none, 0, rfl, hb, .inl rfl⟩
  go_upto_region 6 with fail
  go_cut [14, 15] (fun s14 s15 wx => s15 = .int .i64 (er : Nat) ∧ Below w6.heap.size w6 wx ∧ ∃ Q va vc, s14 = .pointer (some ⟨Q, 0, none⟩) ∧ MAt wx Q mm va nn vc ∧ Seg .u8 wx va (toI mm.d))
  case first =>
    refine MixH.start (fun A => Below w6.heap.size w6 A) (by kernel_rfl) ?_
    obtain ⟨wA, hwA⟩ : ∃ wA, wA = w6.drew := ⟨_, rfl⟩
    have hS : Below w6.heap.size w6 wA := by rw [hwA]; exact (Below.refl _ _).drew
    rw [← hwA]
    clear hwA
    refine MixH.takes [true, false, false, true] 10 (by kernel_rfl) (by kernel_rfl) (by decide) (by kernel_rfl) hS (fun K hK => ?_)
    simp only [Mix.pick]
    repeat (go_big_quiet_step (fail))
    refine wpQuiet_nil (hK _ ?_)
    clear hK K
    refine MixH.take 9 1 _ (.agg (ipCells V x)) rfl (by kernel_rfl) (by kernel_rfl) (by kernel_rfl) (by kernel_rfl) (yields_ip (.tmp 5) rfl B V x rfl rfl (fun A hA => HX6.out.old hA)) hS (fun a' ha => ?_)
    simp only [Act.put, List.setIfInBounds_toArray, List.set_cons_succ, List.set_cons_zero] at ha
    subst ha
    refine MixH.take 8 2 _ (.agg (ipCells U y)) rfl (by kernel_rfl) (by kernel_rfl) (by kernel_rfl) (by kernel_rfl) (yields_ip (.tmp 6) rfl (B + 1) U y rfl rfl (fun A hA => HY6.out.old hA)) hS (fun a' ha => ?_)
    simp only [Act.put, List.setIfInBounds_toArray, List.set_cons_succ, List.set_cons_zero] at ha
    subst ha
    refine MixH.pair [false, false, false, false, true] [false, false, false, false, false, false, false, false, false, true] 7 4 9 _ _ rfl rfl rfl rfl (by kernel_rfl) (by kernel_rfl) (fun K hK => ?_) (fun K hK => ?_)
    · simp only [Mix.pick]
      go_wp2_with fail
      refine Calls.mono (HQC.out wA hS) ?_
      rintro e wC1 ⟨vv, rfl, hov, hbC⟩
      obtain ⟨ra, rc, rfl⟩ := owns_shape hov
      have HRAwC1 : Hid (OwnB wC1 w6.heap.size (.slice ra N rc) N bs) := owns_mono hov hS.size
      replace hS := bthen hS hbC
      clear hov hbC
      go_wp2
      refine ⟨rfl, hK _ _ hS ?_⟩
      clear hK K
      refine MixH.pair [false, false, false, false, false, true] [false, false, false, false, false, false, false, false, false, true] 6 5 9 _ _ rfl rfl rfl rfl (by kernel_rfl) (by kernel_rfl) (fun K hK => ?_) (fun K hK => ?_)
      · simp only [Mix.pick]
        go_wp2_with fail
        refine Calls.mono (HQR.out wC1 _ _ HRAwC1.out) ?_
        rintro e wR2 ⟨va, vc, rfl, hbC, hsg⟩
        have HSGwR2 : Hid (Seg .u8 wR2 va (toI mm.d)) := hsg
        replace hS := bthen hS hbC
        clear hsg hbC
        go_wp2
        refine ⟨rfl, hK _ _ hS ?_⟩
        clear hK K
        refine MixH.takes [false, false, false, false, false, false, true] 5 (by kernel_rfl) (by kernel_rfl) (by decide) (by kernel_rfl) hS (fun K hK => ?_)
        simp only [Mix.pick]
        repeat (go_big_quiet_step (fail))
        refine wpQuiet_nil (hK _ ?_)
        clear hK K
        refine MixH.takes [false, false, false, false, false, false, false, true, true] 3 (by kernel_rfl) (by kernel_rfl) (by decide) (by kernel_rfl) hS (fun K hK => ?_)
        simp only [Mix.pick]
        repeat (go_big_quiet_step (fail))
        refine wpQuiet_nil (hK _ ?_)
        clear hK K
        refine MixH.one [false, false, false, false, false, false, false, false, false, true] 2 9 _ rfl rfl (by kernel_rfl) (by kernel_rfl) (fun K hK => ?_)
        simp only [Mix.pick]
        have hSn := bthen hS ((Below.refl wR2.heap.size wR2).alloc (Nat.le_refl _) (.cells (mC m8z none 0 0) 27))
        have hba : Below wR2.heap.size wR2 (wR2.alloc (.cells (mC m8z none 0 0) 27)) := (Below.refl _ _).alloc (Nat.le_refl _) _
        go_wp2_with (first | (refine wpList_alloc_m8 rfl rfl ?_))
        go_wp2
        refine ⟨rfl, hK _ _ hSn ?_⟩
        clear hK K
        obtain ⟨wN3, hwN⟩ : ∃ z, z = wR2.alloc (.cells (mC m8z none 0 0) 27) := ⟨_, rfl⟩
        have HPwN3 : Hid (MAt wN3 (wR2.heap.size) m8z none 0 0) := by rw [hwN]; exact mAt_new _ _ _ _ _
        have HPLwN3 : Hid (w6.heap.size ≤ wR2.heap.size) := hS.size
        rw [← hwN] at hSn hba ⊢
        have HSGwN3 : Hid (Seg .u8 wN3 va (toI mm.d)) := HSGwR2.out.old hba
        clear hS
        have hS := hSn
        clear hSn hwN hba
        refine MixH.one [false, false, false, false, false, false, false, false, false, false, true] 1 10 _ rfl rfl (by kernel_rfl) (by kernel_rfl) (fun K hK => ?_)
        simp only [Mix.pick]
        go_wp2_with (first | (refine wpList_store_m8 (.tmp 14) (.tmp 42) rfl rfl (wR2.heap.size) m8z mm none va 0 0 nn vc rfl rfl HPwN3.out rfl ?_))
        intro wE4 hRE kE
        have HRE : Hid (MAt wE4 (wR2.heap.size) mm va nn vc) := hRE
        have HSE : Hid (Seg .u8 wE4 va (toI mm.d)) := kE.seg HSGwN3.out (fun z hz ha e => seg_ne_m8 HPwN3.out HSGwN3.out z hz ha e)
        replace hS := hS.trans (kE.below (fun q e => by have e' : q = wR2.heap.size := e; have := HPLwN3.out; omega) hS.size)
        clear hRE kE
        go_wp2
        refine ⟨rfl, hK _ _ hS ?_⟩
        clear hK K
        refine MixH.takes [false, false, false, false, false, false, false, false, false, false, false, true] 0 (by kernel_rfl) (by kernel_rfl) (by decide) (by kernel_rfl) hS (fun K hK => ?_)
        simp only [Mix.pick]
        repeat (go_big_quiet_step (fail))
        refine wpQuiet_nil (hK _ ?_)
        clear hK K
        refine MixH.done (by kernel_rfl) ?_
        go_wp2
        go_meet
        exact ⟨rfl, hS, wR2.heap.size, va, vc, rfl, HRE.out, HSE.out⟩
      · simp only [Mix.pick]
        have hSn := bthen hS ((Below.refl wC1.heap.size wC1).alloc (Nat.le_refl _) (.cells (mC m8z none 0 0) 27))
        have hba : Below wC1.heap.size wC1 (wC1.alloc (.cells (mC m8z none 0 0) 27)) := (Below.refl _ _).alloc (Nat.le_refl _) _
        go_wp2_with (first | (refine wpList_alloc_m8 rfl rfl ?_))
        go_wp2
        refine ⟨rfl, hK _ _ hSn ?_⟩
        clear hK K
        obtain ⟨wN5, hwN⟩ : ∃ z, z = wC1.alloc (.cells (mC m8z none 0 0) 27) := ⟨_, rfl⟩
        have HPwN5 : Hid (MAt wN5 (wC1.heap.size) m8z none 0 0) := by rw [hwN]; exact mAt_new _ _ _ _ _
        have HPLwN5 : Hid (w6.heap.size ≤ wC1.heap.size) := hS.size
        rw [← hwN] at hSn hba ⊢
        have HRAwN5 : Hid (OwnB wN5 w6.heap.size (.slice ra N rc) N bs) := own_below HRAwC1.out hba
        clear hS
        have hS := hSn
        clear hSn hwN hba
        refine MixH.one [false, false, false, false, false, true] 5 5 _ rfl rfl (by kernel_rfl) (by kernel_rfl) (fun K hK => ?_)
        simp only [Mix.pick]
        go_wp2_with fail
        refine Calls.mono (HQR.out wN5 _ _ HRAwN5.out) ?_
        rintro e wR6 ⟨va, vc, rfl, hbC, hsg⟩
        have HSGwR6 : Hid (Seg .u8 wR6 va (toI mm.d)) := hsg
        replace hS := bthen hS hbC
        have HPwR6 : Hid (MAt wR6 (wC1.heap.size) m8z none 0 0) := HPwN5.out.below hbC
        clear hsg hbC
        go_wp2
        refine ⟨rfl, hK _ _ hS ?_⟩
        clear hK K
        refine MixH.takes [false, false, false, false, false, false, true] 4 (by kernel_rfl) (by kernel_rfl) (by decide) (by kernel_rfl) hS (fun K hK => ?_)
        simp only [Mix.pick]
        repeat (go_big_quiet_step (fail))
        refine wpQuiet_nil (hK _ ?_)
        clear hK K
        refine MixH.takes [false, false, false, false, false, false, false, true, true] 2 (by kernel_rfl) (by kernel_rfl) (by decide) (by kernel_rfl) hS (fun K hK => ?_)
        simp only [Mix.pick]
        repeat (go_big_quiet_step (fail))
        refine wpQuiet_nil (hK _ ?_)
        clear hK K
        refine MixH.one [false, false, false, false, false, false, false, false, false, false, true] 1 10 _ rfl rfl (by kernel_rfl) (by kernel_rfl) (fun K hK => ?_)
        simp only [Mix.pick]
        go_wp2_with (first | (refine wpList_store_m8 (.tmp 14) (.tmp 42) rfl rfl (wC1.heap.size) m8z mm none va 0 0 nn vc rfl rfl HPwR6.out rfl ?_))
        intro wE7 hRE kE
        have HRE : Hid (MAt wE7 (wC1.heap.size) mm va nn vc) := hRE
        have HSE : Hid (Seg .u8 wE7 va (toI mm.d)) := kE.seg HSGwR6.out (fun z hz ha e => seg_ne_m8 HPwR6.out HSGwR6.out z hz ha e)
        replace hS := hS.trans (kE.below (fun q e => by have e' : q = wC1.heap.size := e; have := HPLwN5.out; omega) hS.size)
        clear hRE kE
        go_wp2
        refine ⟨rfl, hK _ _ hS ?_⟩
        clear hK K
        refine MixH.takes [false, false, false, false, false, false, false, false, false, false, false, true] 0 (by kernel_rfl) (by kernel_rfl) (by decide) (by kernel_rfl) hS (fun K hK => ?_)
        simp only [Mix.pick]
        repeat (go_big_quiet_step (fail))
        refine wpQuiet_nil (hK _ ?_)
        clear hK K
        refine MixH.done (by kernel_rfl) ?_
        go_wp2
        go_meet
        exact ⟨rfl, hS, wC1.heap.size, va, vc, rfl, HRE.out, HSE.out⟩
    · simp only [Mix.pick]
      have hSn := bthen hS ((Below.refl wA.heap.size wA).alloc (Nat.le_refl _) (.cells (mC m8z none 0 0) 27))
      have hba : Below wA.heap.size wA (wA.alloc (.cells (mC m8z none 0 0) 27)) := (Below.refl _ _).alloc (Nat.le_refl _) _
      go_wp2_with (first | (refine wpList_alloc_m8 rfl rfl ?_))
      go_wp2
      refine ⟨rfl, hK _ _ hSn ?_⟩
      clear hK K
      obtain ⟨wN8, hwN⟩ : ∃ z, z = wA.alloc (.cells (mC m8z none 0 0) 27) := ⟨_, rfl⟩
      have HPwN8 : Hid (MAt wN8 (wA.heap.size) m8z none 0 0) := by rw [hwN]; exact mAt_new _ _ _ _ _
      have HPLwN8 : Hid (w6.heap.size ≤ wA.heap.size) := hS.size
      rw [← hwN] at hSn hba ⊢
      clear hS
      have hS := hSn
      clear hSn hwN hba
      refine MixH.one [false, false, false, false, true] 6 4 _ rfl rfl (by kernel_rfl) (by kernel_rfl) (fun K hK => ?_)
      simp only [Mix.pick]
      go_wp2_with fail
      refine Calls.mono (HQC.out wN8 hS) ?_
      rintro e wC9 ⟨vv, rfl, hov, hbC⟩
      obtain ⟨ra, rc, rfl⟩ := owns_shape hov
      have HRAwC9 : Hid (OwnB wC9 w6.heap.size (.slice ra N rc) N bs) := owns_mono hov hS.size
      replace hS := bthen hS hbC
      have HPwC9 : Hid (MAt wC9 (wA.heap.size) m8z none 0 0) := HPwN8.out.below hbC
      clear hov hbC
      go_wp2
      refine ⟨rfl, hK _ _ hS ?_⟩
      clear hK K
      refine MixH.one [false, false, false, false, false, true] 5 5 _ rfl rfl (by kernel_rfl) (by kernel_rfl) (fun K hK => ?_)
      simp only [Mix.pick]
      go_wp2_with fail
      refine Calls.mono (HQR.out wC9 _ _ HRAwC9.out) ?_
      rintro e wR10 ⟨va, vc, rfl, hbC, hsg⟩
      have HSGwR10 : Hid (Seg .u8 wR10 va (toI mm.d)) := hsg
      replace hS := bthen hS hbC
      have HPwR10 : Hid (MAt wR10 (wA.heap.size) m8z none 0 0) := HPwC9.out.below hbC
      clear hsg hbC
      go_wp2
      refine ⟨rfl, hK _ _ hS ?_⟩
      clear hK K
      refine MixH.takes [false, false, false, false, false, false, true] 4 (by kernel_rfl) (by kernel_rfl) (by decide) (by kernel_rfl) hS (fun K hK => ?_)
      simp only [Mix.pick]
      repeat (go_big_quiet_step (fail))
      refine wpQuiet_nil (hK _ ?_)
      clear hK K
      refine MixH.takes [false, false, false, false, false, false, false, true, true] 2 (by kernel_rfl) (by kernel_rfl) (by decide) (by kernel_rfl) hS (fun K hK => ?_)
      simp only [Mix.pick]
      repeat (go_big_quiet_step (fail))
      refine wpQuiet_nil (hK _ ?_)
      clear hK K
      refine MixH.one [false, false, false, false, false, false, false, false, false, false, true] 1 10 _ rfl rfl (by kernel_rfl) (by kernel_rfl) (fun K hK => ?_)
      simp only [Mix.pick]
      go_wp2_with (first | (refine wpList_store_m8 (.tmp 14) (.tmp 42) rfl rfl (wA.heap.size) m8z mm none va 0 0 nn vc rfl rfl HPwR10.out rfl ?_))
      intro wE11 hRE kE
      have HRE : Hid (MAt wE11 (wA.heap.size) mm va nn vc) := hRE
      have HSE : Hid (Seg .u8 wE11 va (toI mm.d)) := kE.seg HSGwR10.out (fun z hz ha e => seg_ne_m8 HPwR10.out HSGwR10.out z hz ha e)
      replace hS := hS.trans (kE.below (fun q e => by have e' : q = wA.heap.size := e; have := HPLwN8.out; omega) hS.size)
      clear hRE kE
      go_wp2
      refine ⟨rfl, hK _ _ hS ?_⟩
      clear hK K
      refine MixH.takes [false, false, false, false, false, false, false, false, false, false, false, true] 0 (by kernel_rfl) (by kernel_rfl) (by decide) (by kernel_rfl) hS (fun K hK => ?_)
      simp only [Mix.pick]
      repeat (go_big_quiet_step (fail))
      refine wpQuiet_nil (hK _ ?_)
      clear hK K
      refine MixH.done (by kernel_rfl) ?_
      go_wp2
      go_meet
      exact ⟨rfl, hS, wA.heap.size, va, vc, rfl, HRE.out, HSE.out⟩
  case rest =>
  obtain ⟨rfl, hc7, Q, va, vc, rfl, hMQ, hSQ⟩ := hcut
  have bel7 := bthen bel6 hc7
  have HM7 : Hid (MAt wc P mm xa nn nn) := HM6.out.below hc7
  have HQ7 : Hid (MAt wc Q mm va nn vc) := hMQ
  have HOW7 : Hid (OwnB wc w1.heap.size (.slice (some ⟨g, 0, none⟩) (N + 5) gc) (N + 5) (bs ++ lMarks)) := own_below HOW6.out hc7
  have HWAS7 : Hid (OwnB wc w3.heap.size (.slice (some ⟨ga, 0, none⟩) (N + 5) gcp) (N + 5) (bs ++ lMarks)) := own_below HWAS6.out hc7
  have QE : Hid _ := mSame_true mm xa va nn nn vc wc HDL.out (HXS.out wc (owns_seg_at HOW7.out).1) hSQ (by omega)
  have n1 : ((er : Int) != (er : Int)) = false := by simp
  have HSA : Hid (∀ A, OwnB A w1.heap.size (.slice (some ⟨g, 0, none⟩) (N + 5) gc) (N + 5) (bs ++ lMarks) → OwnB A w3.heap.size (.slice (some ⟨ga, 0, none⟩) (N + 5) gcp) (N + 5) (bs ++ lMarks) → Calls Tryd.prog 12 #[.slice (some ⟨g, 0, none⟩) (N + 5) gc, .slice (some ⟨ga, 0, none⟩) (N + 5) gcp] A fun e w' => e = .returned (.bool true) ∧ Below A.heap.size A w') := fun A h1 h2 => by
    have q := same8_any (some ⟨g, 0, none⟩) (some ⟨ga, 0, none⟩) (N + 5) (N + 5) gc gcp (bs ++ lMarks) (bs ++ lMarks) A HLL.out HLL.out (owns_seg_at h1).1 (owns_seg_at h2).1 (by omega)
    rw [decide_eq_true (rfl : bs ++ lMarks = bs ++ lMarks)] at q
    exact q
  clear hc7 hMQ hSQ HM6 HX6 HY6 HOW6 HWAS6 bel6 HQC HQR
  go_wp2_with (first | (refine wpList_load_m8 (.tmp 12) rfl P mm xa nn nn rfl HM7.out rfl ?_) | (refine wpList_load_m8 (.tmp 14) rfl Q mm va nn vc rfl HQ7.out rfl ?_))
  refine Calls.mono QE.out ?_
  rintro e w8 ⟨rfl, hb8⟩
  have bel8 := bthen bel7 hb8
  have HM8 : Hid (MAt w8 P mm xa nn nn) := HM7.out.below hb8
  have HOW8 : Hid (OwnB w8 w1.heap.size (.slice (some ⟨g, 0, none⟩) (N + 5) gc) (N + 5) (bs ++ lMarks)) := own_below HOW7.out hb8
  have HWAS8 : Hid (OwnB w8 w3.heap.size (.slice (some ⟨ga, 0, none⟩) (N + 5) gcp) (N + 5) (bs ++ lMarks)) := own_below HWAS7.out hb8
  clear hb8 QE HM7 HQ7 HOW7 HWAS7 bel7
  go_wp2_with fail
  refine Calls.mono (HSA.out w8 HOW8.out HWAS8.out) ?_
  rintro e w9 ⟨rfl, hb9⟩
  have bel9 := bthen bel8 hb9
  have HM9 : Hid (MAt w9 P mm xa nn nn) := HM8.out.below hb9
  have HOW9 : Hid (OwnB w9 w1.heap.size (.slice (some ⟨g, 0, none⟩) (N + 5) gc) (N + 5) (bs ++ lMarks)) := own_below HOW8.out hb9
  have HWAS9 : Hid (OwnB w9 w3.heap.size (.slice (some ⟨ga, 0, none⟩) (N + 5) gcp) (N + 5) (bs ++ lMarks)) := own_below HWAS8.out hb9
  have c4 := HM9.out.c4
  have al9 : Below w9.heap.size w9 (w9.alloc (.cells #[.int .u8 99, .int .u8 99] 5)) := (Below.refl _ _).alloc (Nat.le_refl _) _
  clear hb9 HM8 HOW8 HWAS8 bel8
  go_wp2_with (first | (at_builtin; refine append_win rfl (.tmp 60) (.tmp 61) 25 rfl 5 i0 (.int .u8 0) 1 Tryd.underlying25 hi hz0 hz1 hz2 rfl xa nn (toI mm.d) rfl (by rw [toI_len]; exact HDL.out) ((HXS.out w9 (owns_seg_at HOW9.out).1).old al9) HXN.out ⟨w9.heap.size, 0, none⟩ 2 2 [99, 99] rfl rfl (seg_newz w9 [99, 99] _) (by decide) (by unfold maxLen; omega) (by omega) ?_))
  intro v10 w10 ho10 hb10'
  have hb10 : Below w9.heap.size w9 w10 := al9.trans (hb10'.mono (by simp))
  have bel10 := bthen bel9 hb10
  obtain ⟨sa, sc, rfl⟩ := owns_shape ho10
  have HM10 : Hid (MAt w10 P mm xa nn nn) := HM9.out.below hb10
  have HOW10 : Hid (OwnB w10 w1.heap.size (.slice (some ⟨g, 0, none⟩) (N + 5) gc) (N + 5) (bs ++ lMarks)) := own_below HOW9.out hb10
  have HWAS10 : Hid (OwnB w10 w3.heap.size (.slice (some ⟨ga, 0, none⟩) (N + 5) gcp) (N + 5) (bs ++ lMarks)) := own_below HWAS9.out hb10
  clear ho10 hb10 hb10' al9 c4 HM9 HOW9 HWAS9 bel9
  go_wp2_with fail
  refine Calls.mono (HSA.out w10 HOW10.out HWAS10.out) ?_
  rintro e w11 ⟨rfl, hb11⟩
  have bel11 := bthen bel10 hb11
  have HM11 : Hid (MAt w11 P mm xa nn nn) := HM10.out.below hb11
  have HOW11 : Hid (OwnB w11 w1.heap.size (.slice (some ⟨g, 0, none⟩) (N + 5) gc) (N + 5) (bs ++ lMarks)) := own_below HOW10.out hb11
  have HWAS11 : Hid (OwnB w11 w3.heap.size (.slice (some ⟨ga, 0, none⟩) (N + 5) gcp) (N + 5) (bs ++ lMarks)) := own_below HWAS10.out hb11
  have c4 := HM11.out.c4
  have q2 : IntKind.i64.wrap ((nn : Int) + 2) = (nn : Int) + 2 := by rw [IntKind.wrap_i64]; omega
  have q3 : (((nn : Int) + 2) != ((nn : Int) + 2)) = false := by simp
  have HLE : Hid (w.heap.size ≤ w11.heap.size) := bel11.size
  clear hb11 HM10 HOW10 HWAS10 bel10
  go_upto_region 12 with fail
  clear c4 q2 q3
  go_wp2
  go_loopw [17] (fun ix wr => ∃ k : Nat, k ≤ nn ∧ ix = .int .i64 k ∧ Hid (MAt wr P mm xa nn nn) ∧ Hid (OwnB wr w1.heap.size (.slice (some ⟨g, 0, none⟩) (N + 5) gc) (N + 5) (bs ++ lMarks)) ∧ Hid (OwnB wr w3.heap.size (.slice (some ⟨ga, 0, none⟩) (N + 5) gcp) (N + 5) (bs ++ lMarks)) ∧ Below w.heap.size w wr) (fun ix _ => nn - (intOf ix).toNat)
  case atStart => exact ⟨0, Nat.zero_le _, rfl, HM11, HOW11, HWAS11, bel11⟩
  case round =>
    obtain ⟨k, hk, rfl, HMr, HOWr, HWASr, belr⟩ := hrel
    have c4 := HMr.out.c4
    by_cases hlt : k < nn
    · obtain ⟨h8, hxa, hmd⟩ := HNB.out (by omega)
      subst hxa
      have hk8 : 8 + k < N + 5 := by omega
      obtain ⟨_, _, e1, hcs⟩ := seg_at (owns_seg_at HOWr.out).1 (8 + k) (by rw [HLL.out]; exact hk8)
      have e2 := Option.some.inj e1
      simp only [Addr.mk.injEq, and_true] at e2
      obtain ⟨rfl, rfl⟩ := e2
      have ck : wr.cell? ⟨g, 8 + k, none⟩ = some (.int .u8 (((bs ++ lMarks).getD (8 + k) 0 : Nat) : Int)) := by have := hcs (8 + k) (by rw [HLL.out]; exact hk8); rw [Nat.zero_add] at this; exact this
      obtain ⟨_, _, e3, hcw⟩ := seg_at (owns_seg_at HWASr.out).1 (8 + k) (by rw [HLL.out]; exact hk8)
      have e4 := Option.some.inj e3
      simp only [Addr.mk.injEq, and_true] at e4
      obtain ⟨rfl, rfl⟩ := e4
      have wk : wr.cell? ⟨ga, 8 + k, none⟩ = some (.int .u8 (((bs ++ lMarks).getD (8 + k) 0 : Nat) : Int)) := by have := hcw (8 + k) (by rw [HLL.out]; exact hk8); rw [Nat.zero_add] at this; exact this
      obtain ⟨xv, hxv⟩ : ∃ xv, xv = (bs ++ lMarks).getD (8 + k) 0 := ⟨_, rfl⟩
      have xl : xv < 256 := by
        rw [hxv]
        refine I8.getD_lt _ (fun z hz => ?_) _
        rcases List.mem_append.1 hz with h | h
        · exact H256.out z h
        · have : z ∈ [201, 202, 203, 204, 205] := h
          simp at this
          omega
      rw [← hxv] at ck wk
      have HXV : Hid (xv = (bs ++ lMarks).getD (8 + k) 0) := hxv
      have fk := own_fz6 HOWr.out (8 + k)
      have xb : bits .xor .u8 (xv : Int) 255 = ((xv ^^^ 255 : Nat) : Int) := u8_xor255 xv xl
      have xl2 : xv ^^^ 255 < 256 := Nat.xor_lt_two_pow (n := 8) xl (by decide)
      have xb2 : bits .xor .u8 ((xv ^^^ 255 : Nat) : Int) 255 = (xv : Int) := by rw [u8_xor255 _ xl2, Nat.xor_assoc, Nat.xor_self, Nat.xor_zero]
      obtain ⟨yv, hyv⟩ : ∃ yv, yv = xv ^^^ 255 := ⟨_, rfl⟩
      rw [← hyv] at xb xb2
      have HEWK : Hid (wr.cell? ⟨ga, 8 + k, none⟩ = some (.int .u8 (xv : Int))) := wk
      have k0 : (0 : Int) ≤ (k : Int) := by omega
      have k1 : (k : Int) < (nn : Int) := by omega
      have k2 : ((k : Int)).toNat = k := by omega
      have k3 : IntKind.i64.wrap (8 + (k : Int)) = 8 + (k : Int) := by rw [IntKind.wrap_i64]; omega
      have k4 : (0 : Int) ≤ 8 + (k : Int) := by omega
      have k5 : 8 + (k : Int) < ((N + 5 : Nat) : Int) := by omega
      have k6 : (8 + (k : Int)).toNat = 8 + k := by omega
      have k7 : IntKind.i64.wrap ((k : Int) + 1) = (k : Int) + 1 := by rw [IntKind.wrap_i64]; omega
      have O1 := set_own6 (i := 8 + k) (y := yv) HOWr.out HLL.out
      clear hxv hyv hcs hcw e1 e3 wk xl xl2 hmd
      go_upto_region 15 with fail
      refine MixH.start (fun A => MAt A P mm (some ⟨g, 8, none⟩) nn nn) (by kernel_rfl) ?_
      obtain ⟨wA, hwA⟩ : ∃ wA, wA = wr.drew := ⟨_, rfl⟩
      have hS : MAt wA P mm (some ⟨g, 8, none⟩) nn nn := by rw [hwA]; exact HMr.out
      have cA : wA.cell? ⟨g, 8 + k, none⟩ = some (.int .u8 (xv : Int)) := by rw [hwA]; exact ck
      have zA : wA.frozen? ⟨g, 8 + k, none⟩ = false := by rw [hwA]; exact fk
      have bA : Below wr.heap.size wr wA := by rw [hwA]; exact (Below.refl _ _).drew
      have OA : Hid (OwnB (wA.setCell ⟨g, 8 + k, none⟩ (.int .u8 (yv : Int))) w1.heap.size (.slice (some ⟨g, 0, none⟩) (N + 5) gc) (N + 5) ((bs ++ lMarks).set (8 + k) yv)) := by rw [hwA]; exact O1
      have CA : Hid (Ch (fun q => q = g) wA (wA.setCell ⟨g, 8 + k, none⟩ (.int .u8 (yv : Int)))) := (Ch.refl (fun q => q = g) wA).set _ _ rfl
      rw [← hwA]
      clear hwA ck fk O1 c4
      refine MixH.takes [true, false, true, true, false, true] 7 (by kernel_rfl) (by kernel_rfl) (by decide) (by kernel_rfl) hS (fun K hK => ?_)
      simp only [Mix.pick]
      repeat (go_big_quiet_step (fail))
      refine wpQuiet_nil (hK _ ?_)
      clear hK K
      refine MixH.take 6 1 _ (.slice (some ⟨g, 8, none⟩) nn nn) rfl (by kernel_rfl) (by kernel_rfl) (by kernel_rfl) (by kernel_rfl) (yields_bytes (.tmp 83) rfl ⟨P, 4, none⟩ _ rfl rfl (fun A hA => MAt.c4 hA)) hS (fun a' ha => ?_)
      simp only [Act.put, List.setIfInBounds_toArray, List.set_cons_succ, List.set_cons_zero] at ha
      subst ha
      refine MixH.take 5 4 _ (.slice (some ⟨g, 8, none⟩) nn nn) rfl (by kernel_rfl) (by kernel_rfl) (by kernel_rfl) (by kernel_rfl) (yields_bytes (.tmp 86) rfl ⟨P, 4, none⟩ _ rfl rfl (fun A hA => MAt.c4 hA)) hS (fun a' ha => ?_)
      simp only [Act.put, List.setIfInBounds_toArray, List.set_cons_succ, List.set_cons_zero] at ha
      subst ha
      refine MixH.takes [false, false, false, false, false, false, true] 4 (by kernel_rfl) (by kernel_rfl) (by decide) (by kernel_rfl) hS (fun K hK => ?_)
      simp only [Mix.pick]
      repeat (go_big_quiet_step (fail))
      refine wpQuiet_nil (hK _ ?_)
      clear hK K
      refine MixH.one [false, false, false, false, false, false, false, true] 3 7 _ rfl rfl (by kernel_rfl) (by kernel_rfl) (fun K hK => ?_)
      simp only [Mix.pick]
      go_wp2
      refine ⟨rfl, hK _ _ hS ?_⟩
      clear hK K
      refine MixH.takes [false, false, false, false, false, false, false, false, true] 2 (by kernel_rfl) (by kernel_rfl) (by decide) (by kernel_rfl) hS (fun K hK => ?_)
      simp only [Mix.pick]
      repeat (go_big_quiet_step (fail))
      refine wpQuiet_nil (hK _ ?_)
      clear hK K
      refine MixH.takes [false, false, false, false, false, false, false, false, false, true] 1 (by kernel_rfl) (by kernel_rfl) (by decide) (by kernel_rfl) hS (fun K hK => ?_)
      simp only [Mix.pick]
      repeat (go_big_quiet_step (fail))
      refine wpQuiet_nil (hK _ ?_)
      clear hK K
      refine MixH.one [false, false, false, false, false, false, false, false, false, false, true] 0 10 _ rfl rfl (by kernel_rfl) (by kernel_rfl) (fun K hK => ?_)
      simp only [Mix.pick]
      have hS2 : MAt (wA.setCell ⟨g, 8 + k, none⟩ (.int .u8 (yv : Int))) P mm (some ⟨g, 8, none⟩) nn nn := hS.ch CA.out (fun e => HGP.out.1 e.symm)
      go_wp2
      clear hS
      have hS := hS2
      refine ⟨rfl, hK _ _ hS ?_⟩
      clear hK K
      refine MixH.done (by kernel_rfl) ?_
      clear hS2
      have hBB : Below w.heap.size w (wA.setCell ⟨g, 8 + k, none⟩ (.int .u8 (yv : Int))) := (bthen belr bA).trans (CA.out.below (fun q e => by have e' : q = g := e; have := HWG.out; omega) (bthen belr bA).size)
      have WB : OwnB (wA.setCell ⟨g, 8 + k, none⟩ (.int .u8 (yv : Int))) w3.heap.size (.slice (some ⟨ga, 0, none⟩) (N + 5) gcp) (N + 5) (bs ++ lMarks) := CA.out.owns (own_below HWASr.out bA) (fun q hq e => by have e' : q = g := e; simp [Value.ownBlock] at hq; exact HGG.out (by rw [← e', hq]))
      have cB : (wA.setCell ⟨g, 8 + k, none⟩ (.int .u8 (yv : Int))).cell? ⟨ga, 8 + k, none⟩ = some (.int .u8 (xv : Int)) := CA.out.cell ((bA.cell (p := ⟨ga, 8 + k, none⟩) (World.block_lt_of_cell? wr _ HEWK.out)).trans HEWK.out) (fun e => HGG.out e.symm)
      have dB : (wA.setCell ⟨g, 8 + k, none⟩ (.int .u8 (yv : Int))).cell? ⟨g, 8 + k, none⟩ = some (.int .u8 (yv : Int)) := by
        have hl2 : ((bs ++ lMarks).set (8 + k) yv).length = N + 5 := by rw [List.length_set]; exact HLL.out
        obtain ⟨_, _, e1, hcs⟩ := seg_at (owns_seg_at OA.out).1 (8 + k) (by rw [hl2]; omega)
        have e2 := Option.some.inj e1
        simp only [Addr.mk.injEq, and_true] at e2
        obtain ⟨rfl, rfl⟩ := e2
        have := hcs (8 + k) (by rw [hl2]; omega)
        rw [Nat.zero_add] at this
        rw [this]
        simp [List.getD, HLL.out, show 8 + k < N + 5 by omega]
      have fB := own_fz6 OA.out (8 + k)
      obtain ⟨wB, hwB⟩ : ∃ wB, wB = wA.setCell ⟨g, 8 + k, none⟩ (.int .u8 (yv : Int)) := ⟨_, rfl⟩
      rw [← hwB] at OA hBB WB cB dB fB hS ⊢
      have HWB : Hid (OwnB wB w3.heap.size (.slice (some ⟨ga, 0, none⟩) (N + 5) gcp) (N + 5) (bs ++ lMarks)) := WB
      have HMB : Hid (MAt wB P mm (some ⟨g, 8, none⟩) nn nn) := hS
      have c4 := hS.c4
      have ne : ((yv : Int) != (yv : Int)) = false := by simp
      clear hwB hS cA zA bA CA WB
      go_upto_region 16 with fail
      go_wp2
      go_region
      have bD : Below wB.heap.size wB wB.drew := (Below.refl _ _).drew
      have dD : wB.drew.cell? ⟨g, 8 + k, none⟩ = some (.int .u8 (yv : Int)) := dB
      have fD : wB.drew.frozen? ⟨g, 8 + k, none⟩ = false := fB
      have HMD : Hid (MAt wB.drew P mm (some ⟨g, 8, none⟩) nn nn) := HMB.out
      have HOD : Hid (OwnB wB.drew w1.heap.size (.slice (some ⟨g, 0, none⟩) (N + 5) gc) (N + 5) ((bs ++ lMarks).set (8 + k) yv)) := own_below OA.out bD
      have HWD : Hid (OwnB wB.drew w3.heap.size (.slice (some ⟨ga, 0, none⟩) (N + 5) gcp) (N + 5) (bs ++ lMarks)) := own_below HWB.out bD
      have hBD := bthen hBB bD
      obtain ⟨wD, hwD⟩ : ∃ wD, wD = wB.drew := ⟨_, rfl⟩
      rw [← hwD] at dD fD HMD HOD HWD hBD ⊢
      clear hwD bD cB dB fB c4 HMB HWB OA hBB
      go_upto_region 18 with fail
      have O2 := set_own6 (i := 8 + k) (y := xv) HOD.out (by rw [List.length_set]; exact HLL.out)
      rw [HXV.out, set_back _ _ _ (by rw [HLL.out]; omega), ← HXV.out] at O2
      refine MixH.start (fun A => MAt A P mm (some ⟨g, 8, none⟩) nn nn) (by kernel_rfl) ?_
      obtain ⟨wA2, hwA⟩ : ∃ wA, wA = wD.drew := ⟨_, rfl⟩
      have hS : MAt wA2 P mm (some ⟨g, 8, none⟩) nn nn := by rw [hwA]; exact HMD.out
      have cA : wA2.cell? ⟨g, 8 + k, none⟩ = some (.int .u8 (yv : Int)) := by rw [hwA]; exact dD
      have zA : wA2.frozen? ⟨g, 8 + k, none⟩ = false := by rw [hwA]; exact fD
      have bA : Below wD.heap.size wD wA2 := by rw [hwA]; exact (Below.refl _ _).drew
      have OA : Hid (OwnB (wA2.setCell ⟨g, 8 + k, none⟩ (.int .u8 (xv : Int))) w1.heap.size (.slice (some ⟨g, 0, none⟩) (N + 5) gc) (N + 5) (bs ++ lMarks)) := by rw [hwA]; exact O2
      have CA : Hid (Ch (fun q => q = g) wA2 (wA2.setCell ⟨g, 8 + k, none⟩ (.int .u8 (xv : Int)))) := (Ch.refl (fun q => q = g) wA2).set _ _ rfl
      rw [← hwA]
      clear hwA dD fD O2
      refine MixH.takes [true, false, true, true, false, true] 7 (by kernel_rfl) (by kernel_rfl) (by decide) (by kernel_rfl) hS (fun K hK => ?_)
      simp only [Mix.pick]
      repeat (go_big_quiet_step (fail))
      refine wpQuiet_nil (hK _ ?_)
      clear hK K
      refine MixH.take 6 1 _ (.slice (some ⟨g, 8, none⟩) nn nn) rfl (by kernel_rfl) (by kernel_rfl) (by kernel_rfl) (by kernel_rfl) (yields_bytes (.tmp 105) rfl ⟨P, 4, none⟩ _ rfl rfl (fun A hA => MAt.c4 hA)) hS (fun a' ha => ?_)
      simp only [Act.put, List.setIfInBounds_toArray, List.set_cons_succ, List.set_cons_zero] at ha
      subst ha
      refine MixH.take 5 4 _ (.slice (some ⟨g, 8, none⟩) nn nn) rfl (by kernel_rfl) (by kernel_rfl) (by kernel_rfl) (by kernel_rfl) (yields_bytes (.tmp 108) rfl ⟨P, 4, none⟩ _ rfl rfl (fun A hA => MAt.c4 hA)) hS (fun a' ha => ?_)
      simp only [Act.put, List.setIfInBounds_toArray, List.set_cons_succ, List.set_cons_zero] at ha
      subst ha
      refine MixH.takes [false, false, false, false, false, false, true] 4 (by kernel_rfl) (by kernel_rfl) (by decide) (by kernel_rfl) hS (fun K hK => ?_)
      simp only [Mix.pick]
      repeat (go_big_quiet_step (fail))
      refine wpQuiet_nil (hK _ ?_)
      clear hK K
      refine MixH.one [false, false, false, false, false, false, false, true] 3 7 _ rfl rfl (by kernel_rfl) (by kernel_rfl) (fun K hK => ?_)
      simp only [Mix.pick]
      go_wp2
      refine ⟨rfl, hK _ _ hS ?_⟩
      clear hK K
      refine MixH.takes [false, false, false, false, false, false, false, false, true] 2 (by kernel_rfl) (by kernel_rfl) (by decide) (by kernel_rfl) hS (fun K hK => ?_)
      simp only [Mix.pick]
      repeat (go_big_quiet_step (fail))
      refine wpQuiet_nil (hK _ ?_)
      clear hK K
      refine MixH.takes [false, false, false, false, false, false, false, false, false, true] 1 (by kernel_rfl) (by kernel_rfl) (by decide) (by kernel_rfl) hS (fun K hK => ?_)
      simp only [Mix.pick]
      repeat (go_big_quiet_step (fail))
      refine wpQuiet_nil (hK _ ?_)
      clear hK K
      refine MixH.one [false, false, false, false, false, false, false, false, false, false, true] 0 10 _ rfl rfl (by kernel_rfl) (by kernel_rfl) (fun K hK => ?_)
      simp only [Mix.pick]
      have hS2 : MAt (wA2.setCell ⟨g, 8 + k, none⟩ (.int .u8 (xv : Int))) P mm (some ⟨g, 8, none⟩) nn nn := hS.ch CA.out (fun e => HGP.out.1 e.symm)
      go_wp2
      clear hS
      have hS := hS2
      refine ⟨rfl, hK _ _ hS ?_⟩
      clear hK K
      refine MixH.done (by kernel_rfl) ?_
      clear hS2
      have hBF : Below w.heap.size w (wA2.setCell ⟨g, 8 + k, none⟩ (.int .u8 (xv : Int))) := (bthen hBD bA).trans (CA.out.below (fun q e => by have e' : q = g := e; have := HWG.out; omega) (bthen hBD bA).size)
      have HWF : Hid (OwnB (wA2.setCell ⟨g, 8 + k, none⟩ (.int .u8 (xv : Int))) w3.heap.size (.slice (some ⟨ga, 0, none⟩) (N + 5) gcp) (N + 5) (bs ++ lMarks)) := CA.out.owns (own_below HWD.out bA) (fun q hq e => by have e' : q = g := e; simp [Value.ownBlock] at hq; exact HGG.out (by rw [← e', hq]))
      have HMF : Hid (MAt (wA2.setCell ⟨g, 8 + k, none⟩ (.int .u8 (xv : Int))) P mm (some ⟨g, 8, none⟩) nn nn) := hS
      clear hS cA zA bA
      go_wp2
      go_roundw
      case rel => exact ⟨k + 1, by omega, by go_num, HMF, OA, HWF, hBF⟩
      case measure => simp [intOf]; omega
    · have hni : ¬ ((k : Int) < (nn : Int)) := by omega
      clear hlt
      go_upto_region 19 with fail
      clear c4
      go_wp2_with fail
      refine Calls.mono (HSA.out wr HOWr.out HWASr.out) ?_
      rintro e w20 ⟨rfl, hb20⟩
      have bel20 := bthen belr hb20
      have QA2 : Hid _ := awake_any w20 (HWID.out w20 bel20) (HDIS.out w20 bel20)
      clear hb20
      go_wp2_with fail
      refine Calls.mono QA2.out ?_
      rintro e w21 ⟨rfl, hb21⟩
      have HF : Hid (Below w.heap.size w w21) := bthen bel20 hb21
      clear hb21
      go_wp2
      go_ret
      exact ⟨rfl, HF.out⟩
end Go.Proofs.YtkhalknpfikghaaDoor
