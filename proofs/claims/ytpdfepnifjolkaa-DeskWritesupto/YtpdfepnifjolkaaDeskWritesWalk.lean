/-
  Layer 20, captures: the walk of DeskWrites.
-/
import Derived.Test.YtpdfepnifjolkaaDCB
import Derived.Test.YtpdfepnifjolkaaDCO
namespace Go.Proofs.Ytpdfepnifjolkaa
open Go.RowKit Go.ChangeShapes Go.WideShapes

/-- the mark of a frame -/
def bm (k t : Nat) : Nat := (k + t) % 256
theorem bm_w (k t : Nat) : IntKind.u8.wrap (((k + t : Nat) : Int)) = ((bm k t : Nat) : Int) := u8_n _
/-- the first k frames bear their marks; more of the k-th one its first j bytes -/
def Mk (E : List FX) (k j : Nat) : Prop := ∀ (t : Nat) (e : FX), E[t]? = some e → (t < k → ∀ i, i < e.1.d.length → e.1.d.getD i 0 = bm 100 t) ∧ (t = k → ∀ i, i < j → i < e.1.d.length → e.1.d.getD i 0 = bm 100 t) ∧ e.1.d.length ≤ 2000000
theorem Mk.byte {E : List FX} {k j : Nat} (h : Mk E k j) {e : FX} (he : E[k]? = some e) : Mk (E.set k (e.1.wd (e.1.d.set j (bm 100 k)), e.2)) k (j + 1) := by
  intro t c hc
  have hk := (List.getElem?_eq_some_iff.1 he).1
  rw [List.getElem?_set] at hc
  by_cases ht : k = t
  · rw [if_pos ht, if_pos hk, Option.some.injEq] at hc
    subst hc
    subst ht
    refine ⟨fun q => by omega, fun _ i hi hl => ?_, ?_⟩
    · simp only [CE.wd, List.length_set] at hl ⊢
      by_cases hij : j = i
      · subst hij; simp [List.getD, hl]
      · have h1 := (h k e he).2.1 rfl i (by omega) hl
        simp only [List.getD, List.getElem?_set, if_neg hij] at h1 ⊢
        exact h1
    · simp only [CE.wd, List.length_set]
      exact (h k e he).2.2
  · rw [if_neg ht] at hc
    exact ⟨(h t c hc).1, fun q => absurd q.symm ht, (h t c hc).2.2⟩
theorem Mk.next {E : List FX} {k j : Nat} (h : Mk E k j) {e : FX} (he : E[k]? = some e) (hj : ¬ j < e.1.d.length) : Mk E (k + 1) 0 := by
  intro t c hc
  refine ⟨fun q i hi => ?_, fun _ i hi => by omega, (h t c hc).2.2⟩
  by_cases ht : t = k
  · subst ht
    rw [he, Option.some.injEq] at hc
    subst hc
    exact (h t e he).2.1 rfl i (by omega) hi
  · exact (h t c hc).1 (by omega) i hi
/-- each frame bears its mark; from the k-th on nothing lies behind -/
def Mr (E : List FX) (k : Nat) : Prop := ∀ (t : Nat) (e : FX), E[t]? = some e → (∀ i, i < e.1.d.length → e.1.d.getD i 0 = bm 100 t) ∧ (k ≤ t → e.2 = []) ∧ e.1.d.length ≤ 2000000
/-- the k-th frame bears its mark in its first n bytes, nothing lies behind it -/
def Mi (E : List FX) (k n : Nat) : Prop := ∀ (t : Nat) (e : FX), E[t]? = some e → (t ≠ k → (∀ i, i < e.1.d.length → e.1.d.getD i 0 = bm 100 t) ∧ (k ≤ t → e.2 = []) ∧ e.1.d.length ≤ 2000000) ∧ (t = k → e.2 = [] ∧ n ≤ e.1.d.length ∧ ∀ i, i < n → e.1.d.getD i 0 = bm 100 t)
theorem Mk.all {E : List FX} {k : Nat} (h : Mk E k 0) (hk : E.length ≤ k) (h2 : ∀ (t : Nat) (e : FX), E[t]? = some e → e.2 = []) : Mr E 0 := fun t e he => ⟨(h t e he).1 (by have := (List.getElem?_eq_some_iff.1 he).1; omega), fun _ => h2 t e he, (h t e he).2.2⟩
theorem Mr.mi {E : List FX} {k : Nat} (h : Mr E k) {e : FX} (he : E[k]? = some e) : Mi E k e.1.d.length := fun t c hc => ⟨fun _ => h t c hc, fun q => by
  subst q
  rw [he, Option.some.injEq] at hc
  subst hc
  exact ⟨(h t e he).2.1 (Nat.le_refl _), Nat.le_refl _, (h t e he).1⟩⟩
theorem Mi.put {E : List FX} {k n : Nat} (h : Mi E k n) {e : FX} (he : E[k]? = some e) (c : CE) (hc2 : ∃ x, c.d = e.1.d ++ x) : Mi (E.set k (c, [])) k n := by
  intro t x hx
  have hk := (List.getElem?_eq_some_iff.1 he).1
  rw [List.getElem?_set] at hx
  by_cases ht : k = t
  · rw [if_pos ht, if_pos hk, Option.some.injEq] at hx
    subst hx
    subst ht
    obtain ⟨y, hy⟩ := hc2
    obtain ⟨_, h1, h2⟩ := (h k e he).2 rfl
    refine ⟨fun q => absurd rfl q, fun _ => ⟨rfl, ?_, fun i hi => ?_⟩⟩
    · show n ≤ c.d.length
      rw [hy, List.length_append]; omega
    · show c.d.getD i 0 = _
      rw [hy, List.getD, List.getElem?_append_left (by omega)]
      exact h2 i hi
  · rw [if_neg ht] at hx
    exact ⟨(h t x hx).1, fun q => absurd q.symm ht⟩
theorem Mi.cut {E : List FX} {k n : Nat} (h : Mi E k n) {e : FX} (he : E[k]? = some e) (c : CE) (x : List Nat) (hc : c.d = e.1.d.take n) (hn : n ≤ 2000000) : Mr (E.set k (c, x)) (k + 1) := by
  intro t y hy
  have hk := (List.getElem?_eq_some_iff.1 he).1
  rw [List.getElem?_set] at hy
  by_cases ht : k = t
  · rw [if_pos ht, if_pos hk, Option.some.injEq] at hy
    subst hy
    subst ht
    obtain ⟨_, h1, h2⟩ := (h k e he).2 rfl
    refine ⟨fun i hi => ?_, fun q => by omega, ?_⟩
    · have hi' : i < n := by
        have h3 : i < c.d.length := hi
        rw [hc, List.length_take] at h3
        omega
      show c.d.getD i 0 = _
      rw [hc, List.getD, List.getElem?_take_of_lt hi']
      exact h2 i hi'
    · show c.d.length ≤ 2000000
      rw [hc, List.length_take]; omega
  · rw [if_neg ht] at hy
    have h3 := (h t y hy).1 (fun q => ht q.symm)
    exact ⟨h3.1, fun q => h3.2.1 (by omega), h3.2.2⟩
theorem Mr.fin {E : List FX} {k : Nat} (h : Mr E k) : ∀ (t : Nat) (e : FX), E[t]? = some e → ∀ i, i < e.1.d.length → e.1.d.getD i 0 = bm 100 t := fun t e he => (h t e he).1
theorem len_set {E : List FX} {k : Nat} {x : FX} {n : Nat} (h : E.length = n) : (E.set k x).length = n := by rw [List.length_set]; exact h
theorem get_set {E : List FX} {k : Nat} {x : FX} (h : k < E.length) : (E.set k x)[k]? = some x := by rw [List.getElem?_set, if_pos rfl, if_pos h]
theorem all_set {E : List FX} {k : Nat} {x : FX} (h : ∀ (t : Nat) (e : FX), E[t]? = some e → e.2 = []) (hx : x.2 = []) : ∀ (t : Nat) (e : FX), (E.set k x)[t]? = some e → e.2 = [] := fun t e he => by
  rcases List.mem_or_eq_of_mem_set (List.mem_of_getElem? he) with hm | rfl
  · obtain ⟨i, hi⟩ := List.getElem?_of_mem hm
    exact h i e hi
  · exact hx
theorem cvt_256 {L : List CE} {cs : List CV} (h : L.map cvt = cs) (k : ∀ c ∈ cs, ∀ x ∈ c.2.2.2, x < 256) : ∀ c ∈ L, ∀ x ∈ c.d, x < 256 := fun c hc => k (cvt c) (by rw [← h]; exact List.mem_map_of_mem hc)
namespace deskWrites
set_option maxHeartbeats 1600000 in
set_option maxRecDepth 100000 in
theorem walk (w : World) (la : Option Addr) (n lc : Nat) (L : List CE) (hn : L.length = n) (hU : CapsU w la L) (hn2 : n ≤ 1048576) : Calls Try.prog 4 #[.slice la n lc] w fun e w' => e = .returned (.bool true) ∧ Below w.heap.size w w' := by
  obtain ⟨hin0, hdl⟩ := hU.inn
  have h256 : ∀ c ∈ L, ∀ x ∈ c.d, x < 256 := fun c hc => by
    obtain ⟨i, hi⟩ := List.getElem?_of_mem hc
    exact (ListG.at hin0 i c hi).1.2
  have HS : Hid (CapsIn w la L ∧ L.length = n ∧ (∀ c ∈ L, c.d.length ≤ 2000000) ∧ (∀ c ∈ L.map cvt, ∀ x ∈ c.2.2.2, x < 256)) := ⟨hin0, hn, fun c hc => by have := hdl c hc; omega, fun c hc => by
    obtain ⟨c', hc', rfl⟩ := List.mem_map.1 hc
    exact h256 c' hc'⟩
  clear hin0 hdl h256 hU hn
  go_enter Try.func4, Try.ntmps4
  have QM : Hid _ := marked_any w la n lc L HS.out.1 HS.out.2.1 (by omega) HS.out.2.2.1
  go_wp2_with fail
  refine Calls.mono QM.out ?_
  rintro e w1 ⟨b1, iv, E, hE, hEm, hEx, rfl⟩
  clear QM
  have H1 : Hid (CapsX w1 w.heap.size iv E ∧ E.map (fun e => cvt e.1) = L.map cvt ∧ (∀ e ∈ E, e.2 = x70) ∧ Below w.heap.size w w1 ∧ E.length = n) := ⟨hE, hEm, hEx, b1, by have h1 := congrArg List.length hEm; rw [List.length_map, List.length_map, HS.out.2.1] at h1; exact h1⟩
  have h256 : ∀ c ∈ E, ∀ x ∈ c.1.d, x < 256 := fun c hc x hx => by
    have h1 : cvt c.1 ∈ L.map cvt := by rw [← hEm]; exact List.mem_map.2 ⟨c, hc, rfl⟩
    exact HS.out.2.2.2 _ h1 x hx
  obtain ⟨iva, ivc, hiv, hini⟩ := hE.inn h256
  rw [H1.out.2.2.2.2] at hiv
  subst hiv
  have HIN : Hid (CapsIn w1 iva (E.map Prod.fst)) := hini
  clear hE hEm hEx b1 h256 hini
  obtain ⟨out, hout⟩ : ∃ x, x = (wrA (L.map cvt)).1 := ⟨_, rfl⟩
  obtain ⟨er, her⟩ : ∃ x, x = (wrA (L.map cvt)).2 := ⟨_, rfl⟩
  have HW : Hid (out = (wrA (L.map cvt)).1 ∧ er = (wrA (L.map cvt)).2 ∧ (∀ x ∈ out, x < 256) ∧ out.length ≤ 140000000000) := ⟨hout, her, by rw [hout]; exact wrA_256 _ HS.out.2.2.2, by
    have h1 := wrA_len (L.map cvt)
    rw [List.length_map, HS.out.2.1, ← hout] at h1
    omega⟩
  have QW : Hid _ := write_any w1 iva n ivc (E.map Prod.fst) HIN.out (by rw [List.length_map]; exact H1.out.2.2.2.2) (by omega)
  rw [List.map_map, show (cvt ∘ Prod.fst : FX → CV) = (fun e => cvt e.1) from rfl, H1.out.2.1, ← hout, ← her] at QW
  go_wp2_with fail
  refine Calls.mono QW.out ?_
  rintro e w2 ⟨b2, ov, hov, rfl⟩
  clear QW
  have H2 : Hid (RowW w2 w1.heap.size ov out ∧ Below w1.heap.size w1 w2 ∧ Below w.heap.size w w2) := ⟨hov, b2, H1.out.2.2.2.1.trans (b2.mono H1.out.2.2.2.1.size)⟩
  clear hov b2
  have QW : Hid _ := rwrite_any w2 la n lc L (HS.out.1.old H2.out.2.2) HS.out.2.1 (by omega)
  rw [← hout, ← her] at QW
  clear hout her
  go_wp2_with fail
  refine Calls.mono QW.out ?_
  rintro e w3 ⟨b3, wv, hwv, rfl⟩
  clear QW
  have H3 : Hid (RowW w3 w1.heap.size ov out ∧ RowW w3 w2.heap.size wv out ∧ Below w1.heap.size w1 w3 ∧ Below w.heap.size w w3) := ⟨H2.out.1.below b3, hwv, H2.out.2.1.trans (b3.mono H2.out.2.1.size), H2.out.2.2.trans (b3.mono H2.out.2.2.size)⟩
  clear hwv b3
  obtain ⟨oa, oc, ho, hocl⟩ := H3.out.1.form
  obtain ⟨wa, wc, hw, _⟩ := H3.out.2.1.form
  obtain ⟨q, hq⟩ : ∃ q, q = out.length := ⟨_, rfl⟩
  rw [← hq] at ho hw hocl
  subst ho
  subst hw
  have HQ : Hid (q = out.length ∧ q ≤ oc) := ⟨hq, hocl⟩
  clear hq hocl
  have k1 := conv_any w3 oa oc out H3.out.1.seg HW.out.2.2.1
  have k2 := conv_any w3 wa wc out H3.out.2.1.seg HW.out.2.2.1
  rw [← HQ.out.1] at k1 k2
  obtain ⟨s, hs⟩ : ∃ s, s = strOf out := ⟨_, rfl⟩
  have HST : Hid (s = strOf out) := hs
  rw [← hs] at k1 k2
  clear hs
  have QU : Hid _ := unmarked_any w3 w.heap.size iva la n ivc lc E L (H1.out.1.below H3.out.2.2.1) H1.out.2.2.1 (HS.out.1.old H3.out.2.2.2) HS.out.2.1 H1.out.2.1 (by omega) HS.out.2.2.1
  go_wp2_with fail
  refine Calls.mono QU.out ?_
  rintro e w4 ⟨rfl, b4⟩
  clear QU k1 k2
  have H4 : Hid (Below w3.heap.size w3 w4 ∧ Below w.heap.size w w4) := ⟨b4, H3.out.2.2.2.trans (b4.mono H3.out.2.2.2.size)⟩
  clear b4
  by_cases hz : er = 0
  case neg =>
    have z1 : decide (er = 0) = false := decide_eq_false hz
    have z2 : (er == 0) = false := by rw [beq_eq_false_iff_ne]; exact hz
    clear hz
    go_wp2
    go_ret
    exact ⟨rfl, H4.out.2⟩
  subst hz
  have HRD : Hid (rdA out = (L.map cvt, 0, 0)) := by show rdA _ = _; rw [HW.out.1]; exact wrA_rd _ HW.out.2.1.symm
  have QR : Hid _ := read_any w4 oa q oc out HQ.out.1.symm HQ.out.2 (by have h1 := HW.out.2.2.2; have h2 := HQ.out.1; omega) (H3.out.1.seg.old H4.out.1) HW.out.2.2.1
  rw [HRD.out] at QR
  go_wp2_with fail
  refine Calls.mono QR.out ?_
  rintro e w5 ⟨b5, bv, K, hK, hKm, rfl⟩
  clear QR
  have H5 : Hid (Caps w5 w4.heap.size bv K ∧ K.map cvt = L.map cvt ∧ Below w4.heap.size w4 w5 ∧ Below w.heap.size w w5 ∧ K.length = n) := ⟨hK, hKm, b5, H4.out.2.trans (b5.mono H4.out.2.size), by have h1 := congrArg List.length hKm; rw [List.length_map, List.length_map, HS.out.2.1] at h1; exact h1⟩
  obtain ⟨ba, bc, hbv, hbi⟩ := hK.inn (cvt_256 hKm HS.out.2.2.2)
  rw [H5.out.2.2.2.2] at hbv
  subst hbv
  have HBI : Hid (CapsIn w5 ba K) := hbi
  clear hK hKm b5 hbi
  have QS : Hid _ := same_true w5 ba la n bc lc K L HBI.out (HS.out.1.old H5.out.2.2.2.1) H5.out.2.2.2.2 H5.out.2.1 (by omega)
  go_wp2_with fail
  refine Calls.mono QS.out ?_
  rintro e w6 ⟨rfl, b6⟩
  clear QS
  have H6 : Hid (CapsX w6 w4.heap.size (.slice ba n bc) (K.map (fun c => (c, []))) ∧ Below w4.heap.size w4 w6) := ⟨(H5.out.1.below b6).x, H5.out.2.2.1.trans (b6.mono H5.out.2.2.1.size)⟩
  clear b6
  go_upto_region 11 with fail
  go_wp2_with fail
  go_loopw [10] (fun ix wr => ∃ (k : Nat) (E : List FX), ix = .int .i64 (k : Nat) ∧ k ≤ n ∧ Hid (CapsX wr w4.heap.size (.slice ba n bc) E ∧ Below w4.heap.size w4 wr ∧ Mk E k 0 ∧ E.length = n ∧ ∀ (t : Nat) (e : FX), E[t]? = some e → e.2 = [])) (fun ix _ => n - (intOf ix).toNat)
  case atStart =>
    refine ⟨0, K.map (fun c => (c, [])), rfl, Nat.zero_le _, H6.out.1, H6.out.2, fun t e he => ⟨fun q => by omega, fun _ i hi => by omega, ?_⟩, by rw [List.length_map]; exact H5.out.2.2.2.2, fun t e he => ?_⟩
    · obtain ⟨c, hc, rfl⟩ := List.mem_map.1 (List.mem_of_getElem? he)
      have h1 : cvt c ∈ L.map cvt := by rw [← H5.out.2.1]; exact List.mem_map_of_mem hc
      obtain ⟨c2, hc2, h2⟩ := List.mem_map.1 h1
      have h3 : c.d = c2.d := congrArg (fun c => c.2.2.2) h2.symm
      show c.d.length ≤ 2000000
      rw [h3]; exact HS.out.2.2.1 c2 hc2
    obtain ⟨c, _, rfl⟩ := List.mem_map.1 (List.mem_of_getElem? he)
    rfl
  case round =>
    clear H6 HBI
    obtain ⟨k, E, rfl, hk, HI⟩ := hrel
    by_cases hin : k < n
    · have p1 : decide ((k : Int) < (n : Int)) = true := decide_eq_true (by omega)
      have p2 : decide (k < n) = true := decide_eq_true hin
      have i0 : (0 : Int) ≤ (k : Int) := by omega
      have i1 : (k : Int) < (n : Int) := by omega
      have i2 : ((k : Int)).toNat = k := by omega
      have wk1 : IntKind.i64.wrap ((k : Int) + 1) = (k : Int) + 1 := i64_s _ (by omega) (by omega)
      obtain ⟨e0, he0⟩ : ∃ e, E[k]? = some e := ⟨_, List.getElem?_eq_getElem (by rw [HI.out.2.2.2.1]; exact hin)⟩
      obtain ⟨g, cap, hv, _, _, _, _⟩ := HI.out.1.at he0
      simp only [Value.slice.injEq] at hv
      obtain ⟨rfl, hnE_, rfl⟩ := hv
      clear hnE_
      obtain ⟨m, hm⟩ : ∃ m, e0.1.d.length = m := ⟨_, rfl⟩
      have hmb : m ≤ 2000000 := by rw [← hm]; exact (HI.out.2.2.1 k e0 he0).2.2
      obtain ⟨y, hy⟩ : ∃ y, y = bm 100 k := ⟨_, rfl⟩
      have HY : Hid (y = bm 100 k) := hy
      have y1 : IntKind.i64.wrap (100 + (k : Int)) = 100 + (k : Int) := i64_s _ (by omega) (by omega)
      have y2 : (100 + (k : Int)) % 256 = (y : Int) := by rw [hy]; unfold bm; omega
      have y3 : IntKind.u8.wrap (100 + (k : Int)) = (y : Int) := by rw [← y2, IntKind.wrap_u8]
      have HEL : Hid (E[k]? = some e0 ∧ e0.1.d.length = m) := ⟨he0, hm⟩
      clear he0 hm hy
      go_wp2_with fail
      go_loopw [11] (fun jx wr => ∃ (j : Nat) (E : List FX) (e : FX), jx = .int .i64 (j : Nat) ∧ j ≤ m ∧ Hid (CapsX wr w4.heap.size (.slice (some ⟨g, 0, none⟩) n bc) E ∧ Below w4.heap.size w4 wr ∧ Mk E k j ∧ E.length = n ∧ (∀ (t : Nat) (e : FX), E[t]? = some e → e.2 = []) ∧ E[k]? = some e ∧ e.1.d.length = m)) (fun jx _ => m - (intOf jx).toNat)
      case atStart => exact ⟨0, E, e0, rfl, Nat.zero_le _, HI.out.1, HI.out.2.1, HI.out.2.2.1, HI.out.2.2.2.1, HI.out.2.2.2.2, HEL.out.1, HEL.out.2⟩
      case round =>
        clear HI HEL
        obtain ⟨j, E, e, rfl, hjm, HJ⟩ := hrel
        obtain ⟨g', cap', hv, hg1, hg2, hgc, hgf⟩ := HJ.out.1.at HJ.out.2.2.2.2.2.1
        simp only [Value.slice.injEq, Option.some.injEq, Addr.mk.injEq, and_true] at hv
        obtain ⟨rfl, hnE_, hcE_⟩ := hv
        clear hnE_ hcE_
        have c3 : wr.cell? ⟨g, k * 4 + 3, none⟩ = some (.slice e.1.a m e.1.cap) := by rw [hgc 3 (by decide), ← HJ.out.2.2.2.2.2.2]; rfl
        clear hgc hgf
        by_cases hj : j < m
        · have r1 : decide ((j : Int) < (m : Int)) = true := decide_eq_true (by omega)
          have r2 : decide (j < m) = true := decide_eq_true hj
          have r3 : IntKind.i64.wrap ((j : Int) + 1) = (j : Int) + 1 := i64_s _ (by omega) (by omega)
          have r4 : (0 : Int) ≤ (j : Int) := by omega
          have r5 : (j : Int) < (m : Int) := by omega
          have r6 : ((j : Int)).toNat = j := by omega
          obtain ⟨b, hb, hbb, hcb, hfb, hbx⟩ := HJ.out.1.byte HJ.out.2.2.2.2.2.1 (j := j) (by rw [HJ.out.2.2.2.2.2.2]; exact hj)
          rw [hb] at c3
          have HP : Hid (CapsX (wr.setCell ⟨b, j, none⟩ (.int .u8 (y : Int))) w4.heap.size (.slice (some ⟨g, 0, none⟩) n bc) (E.set k (e.1.wd (e.1.d.set j y), e.2)) ∧ Below w4.heap.size w4 (wr.setCell ⟨b, j, none⟩ (.int .u8 (y : Int)))) := ⟨hbx y, HJ.out.2.1.trans (((Ch.refl (fun q => q = b) wr).set ⟨b, j, none⟩ _ rfl).below (fun q hq => by omega) HJ.out.2.1.size)⟩
          clear hbx hb
          go_wp2
          go_roundw
          case rel =>
            refine ⟨j + 1, E.set k (e.1.wd (e.1.d.set j y), e.2), (e.1.wd (e.1.d.set j y), e.2), by go_num, by omega, HP.out.1, HP.out.2, by rw [HY.out]; exact HJ.out.2.2.1.byte HJ.out.2.2.2.2.2.1, len_set HJ.out.2.2.2.1, all_set HJ.out.2.2.2.2.1 (HJ.out.2.2.2.2.1 k e HJ.out.2.2.2.2.2.1), get_set (by rw [HJ.out.2.2.2.1]; exact hin), ?_⟩
            show (e.1.d.set j y).length = m
            rw [List.length_set]; exact HJ.out.2.2.2.2.2.2
          case measure => simp [intOf]; omega
        · have r1 : decide ((j : Int) < (m : Int)) = false := decide_eq_false (by omega)
          have r2 : decide (j < m) = false := decide_eq_false hj
          go_wp2
          go_roundw
          case rel => exact ⟨k + 1, E, by go_num, by omega, HJ.out.1, HJ.out.2.1, HJ.out.2.2.1.next HJ.out.2.2.2.2.2.1 (by rw [HJ.out.2.2.2.2.2.2]; exact hj), HJ.out.2.2.2.1, HJ.out.2.2.2.2.1⟩
          case measure => simp [intOf]; omega
    · have p1 : decide ((k : Int) < (n : Int)) = false := decide_eq_false (by omega)
      have p2 : decide (k < n) = false := decide_eq_false hin
      have hnk : n ≤ k := Nat.le_of_not_lt hin
      clear hin
      have HB0 : Hid (CapsX wr w4.heap.size (.slice ba n bc) E ∧ Below w4.heap.size w4 wr ∧ Mr E 0 ∧ E.length = n) := ⟨HI.out.1, HI.out.2.1, HI.out.2.2.1.all (by rw [HI.out.2.2.2.1]; omega) HI.out.2.2.2.2, HI.out.2.2.2.1⟩
      clear HI
      go_wp2_with fail
      go_loopw [12] (fun ix wr => ∃ (k : Nat) (E : List FX), ix = .int .i64 (k : Nat) ∧ k ≤ n ∧ Hid (CapsX wr w4.heap.size (.slice ba n bc) E ∧ Below w4.heap.size w4 wr ∧ Mr E k ∧ E.length = n)) (fun ix _ => n - (intOf ix).toNat)
      case atStart => exact ⟨0, E, rfl, Nat.zero_le _, HB0.out⟩
      case round =>
        clear HB0
        obtain ⟨k, E, rfl, hk, HI⟩ := hrel
        by_cases hin : k < n
        · have p1 : decide ((k : Int) < (n : Int)) = true := decide_eq_true (by omega)
          have p2 : decide (k < n) = true := decide_eq_true hin
          have i0 : (0 : Int) ≤ (k : Int) := by omega
          have i1 : (k : Int) < (n : Int) := by omega
          have i2 : ((k : Int)).toNat = k := by omega
          have wk1 : IntKind.i64.wrap ((k : Int) + 1) = (k : Int) + 1 := i64_s _ (by omega) (by omega)
          obtain ⟨e0, he0⟩ : ∃ e, E[k]? = some e := ⟨_, List.getElem?_eq_getElem (by rw [HI.out.2.2.2]; exact hin)⟩
          obtain ⟨g, cap, hv, _, _, hgc, _⟩ := HI.out.1.at he0
          simp only [Value.slice.injEq] at hv
          obtain ⟨rfl, hnE_, rfl⟩ := hv
          clear hnE_
          obtain ⟨m, hm⟩ : ∃ m, e0.1.d.length = m := ⟨_, rfl⟩
          have hmb : m ≤ 2000000 := by rw [← hm]; exact (HI.out.2.2.1 k e0 he0).2.2
          have c3 : wr.cell? ⟨g, k * 4 + 3, none⟩ = some (.slice e0.1.a m e0.1.cap) := by rw [hgc 3 (by decide), ← hm]; rfl
          obtain ⟨y, hy⟩ : ∃ y, y = bm 200 k := ⟨_, rfl⟩
          have HY : Hid (y = bm 200 k) := hy
          have y1 : IntKind.i64.wrap (200 + (k : Int)) = 200 + (k : Int) := i64_s _ (by omega) (by omega)
          have y2 : (200 + (k : Int)) % 256 = (y : Int) := by rw [hy]; unfold bm; omega
          have y3 : IntKind.u8.wrap (200 + (k : Int)) = (y : Int) := by rw [← y2, IntKind.wrap_u8]
          have HI0 : Hid (Mi E k m) := by rw [← hm]; exact HI.out.2.2.1.mi he0
          have HEL : Hid (E[k]? = some e0 ∧ e0.1.d.length = m) := ⟨he0, hm⟩
          clear he0 hgc hm hy
          go_upto_region 22 with fail
          clear c3
          go_wp2_with fail
          go_loopw [14] (fun jx wr => ∃ (j : Nat) (E : List FX) (e : FX), jx = .int .i64 (j : Nat) ∧ j ≤ 70 ∧ Hid (CapsX wr w4.heap.size (.slice (some ⟨g, 0, none⟩) n bc) E ∧ Below w4.heap.size w4 wr ∧ Mi E k m ∧ E.length = n ∧ E[k]? = some e ∧ e.1.d.length = m + j)) (fun jx _ => 70 - (intOf jx).toNat)
          case atStart => exact ⟨0, E, e0, rfl, by omega, HI.out.1, HI.out.2.1, HI0.out, HI.out.2.2.2, HEL.out.1, HEL.out.2⟩
          case round =>
            clear HI HI0 HEL
            obtain ⟨j, E, e, rfl, hj70, HJ⟩ := hrel
            obtain ⟨g', cap', hv, hg1, hg2, hgc, hgf⟩ := HJ.out.1.at HJ.out.2.2.2.2.1
            simp only [Value.slice.injEq, Option.some.injEq, Addr.mk.injEq, and_true] at hv
            obtain ⟨rfl, hnE_, hcE_⟩ := hv
            clear hnE_ hcE_
            obtain ⟨ea, ec, hea, hec⟩ : ∃ ea ec, e.1.a = ea ∧ e.1.cap = ec := ⟨_, _, rfl, rfl⟩
            have c3 : wr.cell? ⟨g, k * 4 + 3, none⟩ = some (.slice ea (m + j) ec) := by rw [hgc 3 (by decide), ← HJ.out.2.2.2.2.2, ← hea, ← hec]; rfl
            have f3 := hgf (k * 4 + 3)
            have HEA : Hid (e.1.a = ea ∧ e.1.cap = ec ∧ e.2 = []) := ⟨hea, hec, ((HJ.out.2.2.1 k e HJ.out.2.2.2.2.1).2 rfl).1⟩
            have HOW : Hid (OwnB wr w4.heap.size (.slice ea (m + j) ec) (m + j) e.1.d ∧ (fxV e).ownBlock = (Value.slice ea (m + j) ec).ownBlock ∧ ∀ q, (Value.slice ea (m + j) ec).ownBlock = some q → q ≠ g) := by
              have h1 := HJ.out.1.d k e HJ.out.2.2.2.2.1
              have h2 : fxV e = .slice ea (m + j) ec := by unfold fxV; rw [HEA.out.2.2, HJ.out.2.2.2.2.2, hea, hec]; rfl
              refine ⟨?_, by rw [h2], fun q hq e2 => ?_⟩
              · rw [h2, HEA.out.2.2, List.append_nil] at h1
                exact h1.lenz HJ.out.2.2.2.2.2
              · rw [← h2] at hq
                subst e2
                exact HJ.out.1.apart e (List.mem_of_getElem? HJ.out.2.2.2.2.1) q hq rfl
            clear hgc hgf hea hec
            by_cases hj : j < 70
            · have r1 : decide ((j : Int) < 70) = true := decide_eq_true (by omega)
              have r2 : decide (j < 70) = true := decide_eq_true hj
              have r3 : IntKind.i64.wrap ((j : Int) + 1) = (j : Int) + 1 := i64_s _ (by omega) (by omega)
              obtain ⟨l, hl⟩ : ∃ l, l = e.1.d := ⟨_, rfl⟩
              rw [← hl] at HOW
              have HL : Hid (l = e.1.d ∧ l.length = m + j) := ⟨hl, by rw [hl]; exact HJ.out.2.2.2.2.2⟩
              clear hl
              obtain ⟨wy, hwy⟩ : ∃ y_, y_ = wr.alloc (.cells #[.int .u8 (y : Int)] 5) := ⟨_, rfl⟩
              have HYB : Hid (Below wr.heap.size wr wy) := by show Below _ _ _; rw [hwy]; exact (Below.refl _ _).alloc (Nat.le_refl _) _
              have HYS : Hid (Seg .u8 wy (some ⟨wr.heap.size, 0, none⟩) (toI [y])) := by show Seg _ _ _ _; rw [hwy]; exact seg_new3 wr .u8 5 (toI [y])
              have HYW : Hid _ := hwy
              clear hwy
              go_upto_region 24 with (first | (at_builtin; refine append_own rfl (.tmp 109) (.tmp 113) rfl w4.heap.size (.slice ea (m + j) ec) l rfl ?gr_ (some ⟨wr.heap.size, 0, none⟩) 1 1 [y] rfl rfl ?gs_ (by rw [HL.out.2]; omega) ?gb_ ?gk_))
              case gr_ => rw [← HYW.out]; exact Below.owns_ch (HOW.out.1.lenz rfl) HYB.out
              case gs_ => rw [← HYW.out]; exact HYS.out
              case gb_ => rw [← HYW.out]; exact Nat.le_trans HJ.out.2.1.size HYB.out.size
              rw [← HYW.out]
              intro v2 w2 ho2 hk2 hn2_
              have hsh := ho2
              unfold OwnB at hsh
              obtain ⟨va, vc, hv2⟩ := owns_shape hsh
              first | rw [show (l ++ [y]).length = m + j + 1 by rw [List.length_append, HL.out.2]; rfl] at hv2 | rw [HL.out.2] at hv2
              subst hv2
              have HCX := HJ.out.1.below HYB.out
              have c5 : w2.cell? ⟨g, k * 4 + 3, none⟩ = some (.slice ea (m + j) ec) := hk2.cell (p := ⟨g, k * 4 + 3, none⟩) ((HYB.out.cell (p := ⟨g, k * 4 + 3, none⟩) hg2).trans c3) (fun q => HOW.out.2.2 g q rfl)
              have f5 : w2.frozen? ⟨g, k * 4 + 3, none⟩ = false := by
                have h1 := hk2.frozen (p := ⟨g, k * 4 + 3, none⟩) (Nat.lt_of_lt_of_le hg2 HYB.out.size) (fun q => HOW.out.2.2 g q rfl)
                rw [h1]
                exact (World.frozen?_of_block (HYB.out.block g hg2)).trans f3
              have HP : Hid (CapsX (w2.setCell ⟨g, k * 4 + 3, none⟩ (.slice va (m + j + 1) vc)) w4.heap.size (.slice (some ⟨g, 0, none⟩) n bc) (E.set k (e.1.wv (l ++ [y]) va vc, [])) ∧ Below w4.heap.size w4 (w2.setCell ⟨g, k * 4 + 3, none⟩ (.slice va (m + j + 1) vc))) := by
                have hlen : (l ++ [y]).length = m + j + 1 := by rw [List.length_append, HL.out.2]; rfl
                have hp := HCX.put (e' := (e.1.wv (l ++ [y]) va vc, [])) HJ.out.2.2.2.2.1 rfl (w1 := w2) (hk2.mono (fun q _ hq => by rw [HOW.out.2.1]; exact hq)) (by
                  unfold fxV CE.wv
                  simp only [List.append_nil, List.length_nil, Nat.add_zero]
                  rw [hlen]
                  exact ho2.lenz hlen) (fun q hq => by
                  rw [HOW.out.2.1]
                  exact (hn2_ q (by rw [← hq]; exact own_len _ _ _ _ _)).imp id (fun h => by rw [HYW.out, World.size_alloc]; exact h))
                simp only [CE.wv] at hp
                rw [hlen] at hp
                refine ⟨hp, ?_⟩
                have h1 := HJ.out.2.1.trans (HYB.out.mono HJ.out.2.1.size)
                have h2 := h1.trans (hk2.below (fun q hq => (HOW.out.1.kind q hq).1) h1.size)
                exact h2.trans (((Ch.refl (fun q => q = g) w2).set ⟨g, k * 4 + 3, none⟩ _ rfl).below (fun q hq => by omega) h2.size)
              clear ho2 hk2 hn2_ HCX c3 f3 hsh
              go_wp2
              go_roundw
              case rel =>
                refine ⟨j + 1, E.set k (e.1.wv (l ++ [y]) va vc, []), (e.1.wv (l ++ [y]) va vc, []), by go_num, by omega, HP.out.1, HP.out.2, HJ.out.2.2.1.put HJ.out.2.2.2.2.1 _ ⟨[y], by rw [← HL.out.1]; rfl⟩, len_set HJ.out.2.2.2.1, get_set (by rw [HJ.out.2.2.2.1]; exact hin), ?_⟩
                show (l ++ [y]).length = _
                rw [List.length_append, HL.out.2]; rfl
              case measure => simp [intOf]; omega
            · obtain rfl : j = 70 := by omega
              clear hj hj70
              have hcp : m + 70 ≤ ec := by
                have h1 := HOW.out.1.2
                rcases h1 with ⟨_, h2⟩ | ⟨_, cc, _, hv, _, _, h3, _⟩
                · omega
                · simp only [Value.slice.injEq] at hv; omega
              have s0 : (0 : Int) ≤ (m : Int) := by omega
              have s1 : (m : Int) ≤ (ec : Int) := by omega
              have s2 : ((m : Int)).toNat = m := by omega
              have HP : Hid (CapsX (wr.setCell ⟨g, k * 4 + 3, none⟩ (.slice ea m ec)) w4.heap.size (.slice (some ⟨g, 0, none⟩) n bc) (E.set k (e.1.wv (e.1.d.take m) ea ec, e.1.d.drop m)) ∧ Below w4.heap.size w4 (wr.setCell ⟨g, k * 4 + 3, none⟩ (.slice ea m ec))) := by
                have hlen : (e.1.d.take m).length = m := by rw [List.length_take, HJ.out.2.2.2.2.2]; omega
                have hl2 : (e.1.d.drop m).length = 70 := by rw [List.length_drop, HJ.out.2.2.2.2.2]; omega
                have hp := HJ.out.1.put (e' := (e.1.wv (e.1.d.take m) ea ec, e.1.d.drop m)) HJ.out.2.2.2.2.1 rfl (w1 := wr) (Ch.refl _ _) (by
                  unfold fxV CE.wv
                  simp only [List.take_append_drop]
                  rw [hlen, hl2]
                  exact HOW.out.1) (fun q hq => .inl (by
                  unfold fxV CE.wv at hq
                  simp only [hlen, hl2] at hq
                  rw [HOW.out.2.1]
                  exact hq))
                simp only [CE.wv] at hp
                rw [hlen] at hp
                exact ⟨hp, HJ.out.2.1.trans (((Ch.refl (fun q => q = g) wr).set ⟨g, k * 4 + 3, none⟩ _ rfl).below (fun q hq => by omega) HJ.out.2.1.size)⟩
              go_wp2
              go_roundw
              case rel => exact ⟨k + 1, _, by go_num, by omega, HP.out.1, HP.out.2, HJ.out.2.2.1.cut HJ.out.2.2.2.2.1 _ _ rfl hmb, len_set HJ.out.2.2.2.1⟩
              case measure => simp [intOf]; omega
        · have p1 : decide ((k : Int) < (n : Int)) = false := decide_eq_false (by omega)
          have p2 : decide (k < n) = false := decide_eq_false hin
          have hnk : n ≤ k := Nat.le_of_not_lt hin
          clear hin
          have HF : Hid (CapsX wr w4.heap.size (.slice ba n bc) E ∧ Below w4.heap.size w4 wr ∧ (∀ (t : Nat) (e : FX), E[t]? = some e → ∀ i, i < e.1.d.length → e.1.d.getD i 0 = bm 100 t) ∧ E.length = n ∧ ∀ (t : Nat) (e : FX), E[t]? = some e → e.1.d.length ≤ 2000000) := ⟨HI.out.1, HI.out.2.1, HI.out.2.2.1.fin, HI.out.2.2.2, fun t e he => (HI.out.2.2.1 t e he).2.2⟩
          obtain ⟨WF, hWF⟩ : ∃ W, W = wr := ⟨_, rfl⟩
          rw [← hWF] at HF ⊢
          clear HI hWF
          go_wp2_with fail
          go_loopw [15] (fun ix wr => ∃ k : Nat, ix = .int .i64 (k : Nat) ∧ k ≤ n ∧ WF = wr) (fun ix _ => n - (intOf ix).toNat)
          case atStart => exact ⟨0, rfl, Nat.zero_le _, rfl⟩
          case round =>
            obtain ⟨k, rfl, hk, rfl⟩ := hrel
            by_cases hin : k < n
            · have p1 : decide ((k : Int) < (n : Int)) = true := decide_eq_true (by omega)
              have p2 : decide (k < n) = true := decide_eq_true hin
              have i0 : (0 : Int) ≤ (k : Int) := by omega
              have i1 : (k : Int) < (n : Int) := by omega
              have i2 : ((k : Int)).toNat = k := by omega
              have wk1 : IntKind.i64.wrap ((k : Int) + 1) = (k : Int) + 1 := i64_s _ (by omega) (by omega)
              obtain ⟨e, he⟩ : ∃ e, E[k]? = some e := ⟨_, List.getElem?_eq_getElem (by rw [HF.out.2.2.2.1]; exact hin)⟩
              obtain ⟨g, cap, hv, _, _, hgc, _⟩ := HF.out.1.at he
              simp only [Value.slice.injEq] at hv
              obtain ⟨rfl, hnE_, hcE_⟩ := hv
              clear hnE_ hcE_
              obtain ⟨m, hm⟩ : ∃ m, e.1.d.length = m := ⟨_, rfl⟩
              have hmb : m ≤ 2000000 := by rw [← hm]; exact HF.out.2.2.2.2 k e he
              have c3 : WF.cell? ⟨g, k * 4 + 3, none⟩ = some (.slice e.1.a m e.1.cap) := by rw [hgc 3 (by decide), ← hm]; rfl
              obtain ⟨y, hy⟩ : ∃ y, y = bm 100 k := ⟨_, rfl⟩
              have HE : Hid (E[k]? = some e ∧ e.1.d.length = m ∧ y = bm 100 k) := ⟨he, hm, hy⟩
              have y1 : IntKind.i64.wrap (100 + (k : Int)) = 100 + (k : Int) := i64_s _ (by omega) (by omega)
              have y2 : (100 + (k : Int)) % 256 = (y : Int) := by rw [hy]; unfold bm; omega
              have y3 : IntKind.u8.wrap (100 + (k : Int)) = (y : Int) := by rw [← y2, IntKind.wrap_u8]
              clear he hgc hm hy
              go_wp2_with fail
              go_loopw [16] (fun jx wr => ∃ j : Nat, jx = .int .i64 (j : Nat) ∧ j ≤ m ∧ WF = wr) (fun jx _ => m - (intOf jx).toNat)
              case atStart => exact ⟨0, rfl, Nat.zero_le _, rfl⟩
              case round =>
                obtain ⟨j, rfl, hjm, rfl⟩ := hrel
                by_cases hj : j < m
                · have r1 : decide ((j : Int) < (m : Int)) = true := decide_eq_true (by omega)
                  have r2 : decide (j < m) = true := decide_eq_true hj
                  have r3 : IntKind.i64.wrap ((j : Int) + 1) = (j : Int) + 1 := i64_s _ (by omega) (by omega)
                  have r4 : (0 : Int) ≤ (j : Int) := by omega
                  have r5 : (j : Int) < (m : Int) := by omega
                  have r6 : ((j : Int)).toNat = j := by omega
                  obtain ⟨b, hb, _, hcb, _, _⟩ := HF.out.1.byte HE.out.1 (j := j) (by rw [HE.out.2.1]; exact hj)
                  rw [HF.out.2.2.1 k e HE.out.1 j (by rw [HE.out.2.1]; exact hj), ← HE.out.2.2] at hcb
                  have c4 := c3
                  rw [hb] at c4
                  clear hb c3
                  go_wp2
                  go_roundw
                  case rel => exact ⟨j + 1, by go_num, by omega, trivial⟩
                  case measure => simp [intOf]; omega
                · have r1 : decide ((j : Int) < (m : Int)) = false := decide_eq_false (by omega)
                  have r2 : decide (j < m) = false := decide_eq_false hj
                  go_wp2
                  go_roundw
                  case rel => exact ⟨k + 1, by go_num, by omega, trivial⟩
                  case measure => simp [intOf]; omega
            · have p1 : decide ((k : Int) < (n : Int)) = false := decide_eq_false (by omega)
              have p2 : decide (k < n) = false := decide_eq_false hin
              have hnk : n ≤ k := Nat.le_of_not_lt hin
              clear hin
              have k1 := conv_any WF oa oc out ((H3.out.1.seg.old H4.out.1).old HF.out.2.1) HW.out.2.2.1
              have k2 := conv_any WF wa wc out ((H3.out.2.1.seg.old H4.out.1).old HF.out.2.1) HW.out.2.2.1
              rw [← HQ.out.1, ← HST.out] at k1 k2
              go_wp2
              go_ret
              exact ⟨rfl, H4.out.2.trans (HF.out.2.1.mono H4.out.2.size)⟩
end deskWrites
end Go.Proofs.Ytpdfepnifjolkaa
