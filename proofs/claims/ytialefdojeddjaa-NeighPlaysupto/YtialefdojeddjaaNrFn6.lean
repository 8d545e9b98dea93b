/-
  Layer 15's reference: Get, All, Waiting.
-/
import Derived.Test.YtialefdojeddjaaNrFn5
namespace Go.Proofs.Ytialefdojeddjaa
open Go.RowKit Go.Maps

def rwN (R : List RE) : Nat := (R.map (fun r => r.n.ln.length)).foldr (· + ·) 0
theorem rwN_snoc (L : List RE) (e : RE) : rwN (L ++ [e]) = rwN L + e.n.ln.length := by
  unfold rwN
  induction L with
  | nil => simp
  | cons a L ih => simp only [List.cons_append, List.map_cons, List.foldr_cons] at ih ⊢; omega
theorem rwN_le {L : List RE} {b : Nat} (h : ∀ r ∈ L, r.n.ln.length ≤ b) : rwN L ≤ L.length * b := by
  unfold rwN
  induction L with
  | nil => simp
  | cons a L ih =>
    have h1 := h a (by simp)
    have h2 := ih (fun r hr => h r (List.mem_cons_of_mem _ hr))
    simp only [List.map_cons, List.foldr_cons, List.length_cons, Nat.add_mul, Nat.one_mul] at h2 ⊢
    omega
theorem fdI_cases (k : KV) : ∀ (R : List RE) (m : Nat), (fdI R k m = -1 ∧ ∀ r ∈ R, eqP r.n.k k = false) ∨ ∃ i e, R[i]? = some e ∧ eqP e.n.k k = true ∧ fdI R k m = ((m + i : Nat) : Int)
  | [], m => .inl ⟨rfl, fun r hr => by cases hr⟩
  | r :: R, m => by
    unfold fdI
    by_cases h : eqP r.n.k k = true
    · exact .inr ⟨0, r, rfl, h, by rw [if_pos h]; simp⟩
    · rw [if_neg h]
      rcases fdI_cases k R (m + 1) with ⟨h1, h2⟩ | ⟨i, e, h1, h2, h3⟩
      · refine .inl ⟨h1, fun s hs => ?_⟩
        rcases List.mem_cons.1 hs with rfl | hs
        · simpa using h
        · exact h2 s hs
      · exact .inr ⟨i + 1, e, by simpa using h1, h2, by rw [h3]; congr 1; omega⟩
set_option maxHeartbeats 3200000 in
set_option maxRecDepth 100000 in
theorem rwaiting_any (rc : RC) (R : List RE) (w : World) (hR : ER w rc.la R) (hn : R.length = rc.n) (hl : rc.n ≤ 9000) (hb64 : ∀ r ∈ R, r.n.ln.length ≤ 64) : Calls Try.prog 78 #[.agg (rcC rc)] w fun r w' => r = .returned (.int .i64 (rwN R : Nat)) ∧ Below w.heap.size w w' := by
  have HB64 : Hid (∀ r ∈ R, r.n.ln.length ≤ 64) := hb64
  clear hb64
  have hb := rch_new w rc
  have bel : Below w.heap.size w (w.alloc (.cells (rcC rc) 87)) := (Below.refl _ _).alloc (Nat.le_refl _) _
  obtain ⟨CX, hC⟩ : ∃ C, C = rcC rc := ⟨_, rfl⟩
  obtain ⟨W, hW⟩ : ∃ W, W = w.alloc (.cells (rcC rc) 87) := ⟨_, rfl⟩
  rw [← hW] at hb bel
  obtain ⟨B, hB⟩ : ∃ B, B = w.heap.size := ⟨_, rfl⟩
  rw [← hB] at hb
  have HBX : Hid (RchAt W B rc ∧ Below w.heap.size w W) := ⟨hb, bel⟩
  rw [← hC] at hW ⊢
  have HOX : Hid (w.heap.size = B) := hB.symm
  have HWX : Hid (w.alloc (.cells CX 87) = W) := hW.symm
  clear hb hW hB hC bel
  obtain ⟨n, hnn⟩ : ∃ n, n = rc.n := ⟨_, rfl⟩
  have HN : Hid (R.length = n ∧ n ≤ 9000 ∧ n = rc.n) := ⟨by omega, by omega, hnn⟩
  have HER : Hid (ER w rc.la R) := hR
  clear hR hn hl hnn
  go_enter Try.func78, Try.ntmps78
  go_upto_region 1 with fail
  rw [HOX.out, HWX.out]
  go_wp2_with fail
  go_loopw [3, 4] (fun zx ix wr => ∃ z i : Nat, zx = .int .i64 (z : Int) ∧ ix = .int .i64 (i : Int) ∧ i ≤ n ∧ Hid (RchAt wr B rc ∧ Below w.heap.size w wr ∧ z = rwN (R.take i))) (fun _ ix _ => n - (intOf ix).toNat)
  case atStart => exact ⟨0, 0, rfl, rfl, by omega, HBX.out.1, HBX.out.2, rfl⟩
  case round =>
    obtain ⟨z, i, rfl, rfl, hi, HQ⟩ := hrel
    have csl : wr.cell? ⟨B, 5, none⟩ = some (.slice rc.la n rc.lc) := by rw [HQ.out.1.cell 5, HN.out.2.2]; rfl
    clear HBX
    by_cases hlt : i < n
    · have k0 : (0 : Int) ≤ (i : Int) := by omega
      have k1 : (i : Int) < (n : Int) := by omega
      have k2 : ((i : Int)).toNat = i := by omega
      have wi : IntKind.i64.wrap ((i : Int) + 1) = (i : Int) + 1 := by have := HN.out.2.1; rw [IntKind.wrap_i64]; omega
      obtain ⟨e, he⟩ : ∃ e, R[i]? = some e := ⟨_, List.getElem?_eq_getElem (by rw [HN.out.1]; exact hlt)⟩
      obtain ⟨g, off, hla, hx1, hrg⟩ := (HER.out.below HQ.out.2.1).at i e he
      rw [hla] at csl
      have HRG : Hid (wr.rangeAt g (off + i * 29) (reC e).toList) := hrg
      have HLT : Hid (i < n) := hlt
      have HTK : Hid (R.take (i + 1) = R.take i ++ [e]) := by show _ = _; rw [List.take_add_one, he]; rfl
      clear he hx1 hla hrg hi
      obtain ⟨m, hm⟩ : ∃ m, m = e.n.ln.length := ⟨_, rfl⟩
      have c28 : wr.cell? ⟨g, off + i * 29 + 28, none⟩ = some (.slice e.la m e.lc) := by rw [hm]; exact HRG.out 28 _ rfl
      have HZ2 : Hid (z + m = rwN (R.take (i + 1))) := by show _ = _; rw [HTK.out, rwN_snoc, HQ.out.2.2, hm]
      have wz : IntKind.i64.wrap ((z : Int) + (m : Int)) = ((z + m : Nat) : Int) := by
        have h1 := rwN_le (L := R.take (i + 1)) (b := 64) (fun r hr => HB64.out r (List.mem_of_mem_take hr))
        have h2 : (R.take (i + 1)).length ≤ i + 1 := List.length_take_le _ _
        have h3 := HZ2.out
        have h4 := HN.out.2.1
        rw [IntKind.wrap_i64]
        omega
      obtain ⟨z2, hz2⟩ : ∃ z2, z2 = z + m := ⟨_, rfl⟩
      rw [← hz2] at wz HZ2
      clear hm hz2
      go_wp2_with fail
      go_roundw
      case rel => exact ⟨z2, i + 1, rfl, by first | rfl | go_num, by have := HLT.out; omega, HQ.out.1, HQ.out.2.1, HZ2.out⟩
      case measure => have := HLT.out; simp [intOf]; omega
    · have hni : ¬ ((i : Int) < (n : Int)) := by omega
      have HZE : Hid (z = rwN R) := by
        show _ = _
        rw [HQ.out.2.2, List.take_of_length_le (by have := HN.out.1; omega)]
      go_wp2_with fail
      go_ret
      refine ⟨?_, HQ.out.2.1⟩
      rw [← HZE.out]
      rfl
theorem nl_rch {w : World} {base B : Nat} {v : Value} {L : List NB} {rc : RC} (h : NL w base v L) (hb : RchAt w B rc) (g : Nat) (hg : v.ownBlock = some g) (e : g = B) : False := by
  obtain ⟨_, _, cc, hcc⟩ := h.cells g hg
  unfold RchAt at hb
  rw [e, hb] at hcc
  simp only [Option.some.injEq, Obj.cells.injEq] at hcc
  exact absurd hcc.2.1 (by decide)
set_option maxHeartbeats 3200000 in
set_option maxRecDepth 100000 in
theorem rall_any (rc : RC) (R : List RE) (w : World) (hR : ER w rc.la R) (hn : R.length = rc.n) (hl : rc.n ≤ 9000) : Calls Try.prog 77 #[.agg (rcC rc)] w fun r w' => ∃ v, r = .returned v ∧ NL w' w.heap.size v (R.map (fun r => r.n.nb)) ∧ Below w.heap.size w w' := by
  have hb := rch_new w rc
  have bel : Below w.heap.size w (w.alloc (.cells (rcC rc) 87)) := (Below.refl _ _).alloc (Nat.le_refl _) _
  obtain ⟨CX, hC⟩ : ∃ C, C = rcC rc := ⟨_, rfl⟩
  obtain ⟨W, hW⟩ : ∃ W, W = w.alloc (.cells (rcC rc) 87) := ⟨_, rfl⟩
  rw [← hW] at hb bel
  obtain ⟨B, hB⟩ : ∃ B, B = w.heap.size := ⟨_, rfl⟩
  rw [← hB] at hb
  have HBX : Hid (RchAt W B rc ∧ Below w.heap.size w W) := ⟨hb, bel⟩
  rw [← hC] at hW ⊢
  have HOX : Hid (w.heap.size = B) := hB.symm
  have HWX : Hid (w.alloc (.cells CX 87) = W) := hW.symm
  clear hb hW hB hC bel
  obtain ⟨n, hnn⟩ : ∃ n, n = rc.n := ⟨_, rfl⟩
  have HN : Hid (R.length = n ∧ n ≤ 9000 ∧ n = rc.n) := ⟨by omega, by omega, hnn⟩
  have HER : Hid (ER w rc.la R) := hR
  clear hR hn hl hnn
  go_enter Try.func77, Try.ntmps77
  go_upto_region 1 with fail
  rw [HOX.out, HWX.out]
  go_wp2_with fail
  go_loopw [3, 4] (fun vx ix wr => ∃ (v : Value) (i : Nat), ix = .int .i64 (i : Int) ∧ i ≤ n ∧ Hid (vx = v) ∧ Hid (RchAt wr B rc ∧ Below w.heap.size w wr ∧ NL wr w.heap.size v ((R.take i).map (fun r => r.n.nb)))) (fun _ ix _ => n - (intOf ix).toNat)
  case atStart => exact ⟨.slice none 0 0, 0, rfl, by omega, rfl, HBX.out.1, HBX.out.2, NL.nil _ _⟩
  case round =>
    obtain ⟨v, i, rfl, hi, HEQ, HQ⟩ := hrel
    obtain rfl := HEQ.out
    clear HEQ
    have csl : wr.cell? ⟨B, 5, none⟩ = some (.slice rc.la n rc.lc) := by rw [HQ.out.1.cell 5, HN.out.2.2]; rfl
    clear HBX
    by_cases hlt : i < n
    · have k0 : (0 : Int) ≤ (i : Int) := by omega
      have k1 : (i : Int) < (n : Int) := by omega
      have k2 : ((i : Int)).toNat = i := by omega
      have wi : IntKind.i64.wrap ((i : Int) + 1) = (i : Int) + 1 := by have := HN.out.2.1; rw [IntKind.wrap_i64]; omega
      obtain ⟨e, he⟩ : ∃ e, R[i]? = some e := ⟨_, List.getElem?_eq_getElem (by rw [HN.out.1]; exact hlt)⟩
      obtain ⟨g, off, hla, hx1, hrg⟩ := (HER.out.below HQ.out.2.1).at i e he
      rw [hla] at csl
      have HRG : Hid (wr.rangeAt g (off + i * 29) (reC e).toList) := hrg
      have HLT : Hid (i < n) := hlt
      have HTK : Hid (R.take (i + 1) = R.take i ++ [e]) := by show _ = _; rw [List.take_add_one, he]; rfl
      clear he hx1 hla hrg hi
      have bz : Below wr.heap.size wr (wr.alloc (.cells (nbC e.n.nb) 48)) := (Below.refl _ _).alloc (Nat.le_refl _) _
      obtain ⟨L, hL⟩ : ∃ L, L = (R.take i).map (fun r => r.n.nb) := ⟨_, rfl⟩
      obtain ⟨nb, hnb⟩ : ∃ nb, nb = e.n.nb := ⟨_, rfl⟩
      rw [← hnb] at bz
      have HH : Hid (NL (wr.alloc (.cells (nbC nb) 48)) w.heap.size u3 L ∧ wr.rangeAt g (off + i * 29) (nbC nb).toList ∧ Below w.heap.size w (wr.alloc (.cells (nbC nb) 48)) ∧ RchAt (wr.alloc (.cells (nbC nb) 48)) B rc ∧ L.length ≤ 9000) := ⟨by rw [hL]; exact HQ.out.2.2.below bz, by rw [hnb]; exact re_nb HRG.out, bthen HQ.out.2.1 bz, HQ.out.1.below bz, by rw [hL, List.length_map, List.length_take]; have := HN.out; omega⟩
      have HTL : Hid ((R.take (i + 1)).map (fun r => r.n.nb) = L ++ [nb]) := by show _ = _; rw [HTK.out, List.map_append, hL, hnb]; rfl
      clear hL hnb bz HQ
      go_wp2_with (first | (refine wpList_mid_nbr (.tmp 17) rfl g (off + i * 29) nb rfl HH.out.2.1 rfl ?_) | (refine wpList_bs1n (.tmp 18) rfl nb rfl rfl ?_) | (refine wpList_app1n rfl (.tmp 12) (.tmp 19) rfl w.heap.size u3 L rfl HH.out.1 wr.heap.size nb rfl (nbr_new wr nb) (by have := HH.out.2.2.2.2; omega) HH.out.2.2.1.size ?_))
      intro v2 w2 h2 g2 _
      have HE : Hid (RchAt w2 B rc ∧ Below w.heap.size w w2 ∧ NL w2 w.heap.size v2 ((R.take (i + 1)).map (fun r => r.n.nb))) := ⟨(g2.block B HH.out.2.2.2.1.lt (fun e => nl_rch HH.out.1 HH.out.2.2.2.1 B e.symm rfl)).trans HH.out.2.2.2.1, HH.out.2.2.1.trans (grown_below g2 (fun g hg => (HH.out.1.cells g hg).1) HH.out.2.2.1.size), by rw [HTL.out]; exact h2⟩
      clear h2 g2 HH
      go_wp2_with fail
      go_roundw
      case rel => exact ⟨v2, i + 1, by first | rfl | go_num, by have := HLT.out; omega, rfl, HE⟩
      case measure => have := HLT.out; simp [intOf]; omega
    · have hni : ¬ ((i : Int) < (n : Int)) := by omega
      have HZE : Hid (R.take i = R) := List.take_of_length_le (by have := HN.out.1; omega)
      go_wp2_with fail
      go_ret
      refine ⟨_, rfl, ?_, HQ.out.2.1⟩
      have h := HQ.out.2.2
      rw [HZE.out] at h
      exact h
/-- what Get tells -/
def GetP (R : List RE) (k : KV) (w : World) (r : Ending) (w' : World) : Prop :=
  Below w.heap.size w w' ∧ (((∀ r ∈ R, eqP r.n.k k = false) ∧ r = .returned (.tuple #[.agg (nbC nz), .bool false])) ∨ ∃ (i : Nat) (e : RE), R[i]? = some e ∧ eqP e.n.k k = true ∧ r = .returned (.tuple #[.agg (nbC e.n.nb), .bool true]))
set_option maxHeartbeats 3200000 in
set_option maxRecDepth 100000 in
theorem rget_any (rc : RC) (R : List RE) (pt V : Int) (x : Nat → Nat) (w : World) (hR : ER w rc.la R) (hn : R.length = rc.n) (hl : rc.n ≤ 9000) : Calls Try.prog 76 #[.agg (rcC rc), .int .i64 pt, .agg (ipCells V x)] w fun r w' => GetP R ⟨pt, V, x⟩ w r w' := by
  have hi := rch_new w rc
  have hi' := ipr_new (w.alloc (.cells (rcC rc) 87)) V x
  rw [World.size_alloc] at hi'
  obtain ⟨Y, hY⟩ : ∃ Y, Y = (w.alloc (.cells (rcC rc) 87)).alloc (.cells (ipCells V x) 31) := ⟨_, rfl⟩
  have bY : Below w.heap.size w Y := by rw [hY]; exact ((Below.refl _ _).alloc (Nat.le_refl _) _).alloc (by simp) _
  have hi2 : RchAt Y w.heap.size rc := by rw [hY]; exact hi.below ((Below.refl _ _).alloc (Nat.le_refl _) _)
  rw [← hY] at hi'
  have hsz : Y.heap.size = w.heap.size + 2 := by rw [hY, World.size_alloc, World.size_alloc]
  obtain ⟨B, hB⟩ : ∃ B, B = w.heap.size := ⟨_, rfl⟩
  rw [← hB] at hi2 hi' hsz
  obtain ⟨CI, hCI⟩ : ∃ C, C = rcC rc := ⟨_, rfl⟩
  obtain ⟨CM, hCM⟩ : ∃ C, C = ipCells V x := ⟨_, rfl⟩
  obtain ⟨n, hnn⟩ : ∃ n, n = rc.n := ⟨_, rfl⟩
  have HN : Hid (R.length = n ∧ n ≤ 9000 ∧ n = rc.n) := ⟨by omega, by omega, hnn⟩
  have HER : Hid (ER w rc.la R) := hR
  rw [← hCI, ← hCM] at hY ⊢
  obtain ⟨Z, hZ⟩ : ∃ Z, Z = Y.alloc (.cells (nbC nz) 48) := ⟨_, rfl⟩
  have bZ : Below Y.heap.size Y Z := by rw [hZ]; exact (Below.refl _ _).alloc (Nat.le_refl _) _
  have HZ : Hid (RchAt Z B rc ∧ IprAt Z (B + 1) V x ∧ NbrAt Z (B + 2) nz ∧ Below w.heap.size w Z) := ⟨hi2.below bZ, hi'.below bZ, by rw [hZ, ← hsz]; exact nbr_new Y nz, bthen bY bZ⟩
  have HW : Hid ((w.alloc (.cells CI 87)).alloc (.cells CM 31) = Y ∧ w.heap.size = B ∧ Y.heap.size = B + 2 ∧ Y.alloc (.cells (nbC nz) 48) = Z) := ⟨hY.symm, hB.symm, hsz, hZ.symm⟩
  have QF : Hid _ := rfind_any rc R pt V x Z (hR.below (bthen bY bZ)) hn (by omega)
  obtain ⟨fd, hfd⟩ : ∃ fd, fd = fdI R ⟨pt, V, x⟩ 0 := ⟨_, rfl⟩
  rw [← hfd] at QF
  have HFD : Hid (fd = fdI R ⟨pt, V, x⟩ 0) := hfd
  clear hi hi' hY bY hi2 hB hCI hCM hR hn hl hnn hfd hZ bZ hsz
  go_enter Try.func76, Try.ntmps76
  go_upto_region 1 with (first | (rw [HW.out.1]; refine wpList_alloc_nbr rfl rfl ?_; rw [HW.out.2.2.1, HW.out.2.2.2]; simp only [Act.put, List.setIfInBounds_toArray, List.set_cons_succ, List.set_cons_zero]))
  rw [HW.out.2.1]
  go_wp2_with (first | (refine wpList_load_rch (.tmp 3) rfl B rc rfl HZ.out.1 rfl ?_) | (refine wpList_load_ipr (.tmp 5) rfl (B + 1) V x rfl HZ.out.2.1 rfl ?_))
  refine Calls.mono QF.out ?_
  rintro r w1 ⟨rfl, b1⟩
  have H1 : Hid (RchAt w1 B rc ∧ NbrAt w1 (B + 2) nz ∧ Below w.heap.size w w1) := ⟨HZ.out.1.below b1, HZ.out.2.2.1.below b1, bthen HZ.out.2.2.2 b1⟩
  clear b1 QF HZ
  rcases fdI_cases ⟨pt, V, x⟩ R 0 with ⟨h1, h2⟩ | ⟨i, e, h1, h2, h3⟩
  · obtain rfl : fd = -1 := by rw [HFD.out, h1]
    have HNO : Hid (∀ r ∈ R, eqP r.n.k ⟨pt, V, x⟩ = false) := h2
    clear h1 h2 HFD
    go_wp2_with (first | (refine wpList_build_nb0 rfl rfl ?_) | (refine wpList_store_nbr (.tmp 6) (.tmp 15) rfl rfl (B + 2) nz nz rfl rfl H1.out.2.1 rfl ?_))
    intro w2 h2 k2
    have H2 : Hid (NbrAt w2 (B + 2) nz ∧ Below w.heap.size w w2) := ⟨h2, H1.out.2.2.trans (k2.below (fun q e => by have e' : q = B + 2 := e; have := HW.out.2.1; omega) H1.out.2.2.size)⟩
    clear h2 k2
    go_wp2_with fail
    refine bodyPost_ret (results_nbr_tmp rfl _ _ (B + 2) _ rfl H2.out.1) rfl ?_
    exact ⟨H2.out.2, .inl ⟨HNO.out, rfl⟩⟩
  · obtain rfl : fd = (i : Int) := by rw [HFD.out, h3]; simp
    have hin : i < n := by have := (List.getElem?_eq_some_iff.1 h1).1; have := HN.out.1; omega
    have k0 : (0 : Int) ≤ (i : Int) := by omega
    have k1 : (i : Int) < (n : Int) := by omega
    have k2 : ((i : Int)).toNat = i := by omega
    have k3 : ¬ ((i : Int) < 0) := by omega
    obtain ⟨g, off, hla, hx1, hrg⟩ := (HER.out.below H1.out.2.2).at i e h1
    have csl : w1.cell? ⟨B, 5, none⟩ = some (.slice (some ⟨g, off, none⟩) n rc.lc) := by rw [H1.out.1.cell 5, ← hla, HN.out.2.2]; rfl
    obtain ⟨nb, hnb⟩ : ∃ nb, nb = e.n.nb := ⟨_, rfl⟩
    have HRG : Hid (w1.rangeAt g (off + i * 29) (nbC nb).toList) := by rw [hnb]; exact re_nb hrg
    have HEE : Hid (R[i]? = some e ∧ eqP e.n.k ⟨pt, V, x⟩ = true ∧ nb = e.n.nb) := ⟨h1, h2, hnb⟩
    clear h1 h2 h3 hla hx1 hrg hnb HFD
    go_wp2_with (first | (refine wpList_mid_nbr (.tmp 20) rfl g (off + i * 29) nb rfl HRG.out rfl ?_) | (refine wpList_store_nbr (.tmp 6) (.tmp 21) rfl rfl (B + 2) nz nb rfl rfl H1.out.2.1 rfl ?_))
    intro w2 h2 k2
    have H2 : Hid (NbrAt w2 (B + 2) nb ∧ Below w.heap.size w w2) := ⟨h2, H1.out.2.2.trans (k2.below (fun q e => by have e' : q = B + 2 := e; have := HW.out.2.1; omega) H1.out.2.2.size)⟩
    clear h2 k2
    go_wp2_with fail
    refine bodyPost_ret (results_nbr_tmp rfl _ _ (B + 2) _ rfl H2.out.1) rfl ?_
    refine ⟨H2.out.2, .inr ⟨i, e, HEE.out.1, HEE.out.2.1, ?_⟩⟩
    rw [HEE.out.2.2]
    rfl
end Go.Proofs.Ytialefdojeddjaa
