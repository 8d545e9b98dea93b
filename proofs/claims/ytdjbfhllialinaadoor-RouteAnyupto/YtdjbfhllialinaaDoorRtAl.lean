/-
  Layer 14: All: its iterator gives the sorted list, one by one; the body may write the cell O and the row that lies in it.
-/
import Derived.Test.YtdjbfhllialinaaDoorRtSo2
namespace Go.Proofs.YtdjbfhllialinaaDoor
open Go.RowKit Go.Maps Go.Shelf
attribute [local go_sem] Oper.semAt_some

/-- all blocks of cells stay but O and the row whose slice lies in O; that row stays the same one or is a new one -/
structure KO (O : Nat) (A B : World) : Prop where
  size : A.heap.size ≤ B.heap.size
  keep : ∀ (q : Nat) (o : Obj), A.heap[q]? = some o → o.isCells = true → q ≠ O → (∀ v, A.cell? ⟨O, 0, none⟩ = some v → v.ownBlock ≠ some q) → B.heap[q]? = some o
  own : ∀ v q, B.cell? ⟨O, 0, none⟩ = some v → v.ownBlock = some q → A.heap.size ≤ q ∨ ∃ u, A.cell? ⟨O, 0, none⟩ = some u ∧ u.ownBlock = some q
theorem KO.tr {O : Nat} {A B C : World} (h : KO O A B) (k : KO O B C) : KO O A C := by
  refine ⟨Nat.le_trans h.size k.size, fun q o ho hc hne hv => ?_, fun v q hv hq => ?_⟩
  · refine k.keep q o (h.keep q o ho hc hne hv) hc hne (fun v hvB hqB => ?_)
    rcases h.own v q hvB hqB with e | ⟨u, h1, h2⟩
    · have := (Array.getElem?_eq_some_iff.1 ho).1; omega
    · exact hv u h1 h2
  · rcases k.own v q hv hq with e | ⟨u, h1, h2⟩
    · exact .inl (Nat.le_trans h.size e)
    · exact h.own u q h1 h2
theorem KO.put {O n : Nat} : ∀ (W : World) (l : Nat) (o o' : Obj), n ≤ l → W.heap[l]? = some o → o.isCells = false → o.isWalk = false → O < n → KO O W (W.putObj l o') := fun W l o o' hl ho hc _ hO => by
  have hh : ∀ q, q ≠ l → (W.putObj l o').heap[q]? = W.heap[q]? := fun q hq => by
    simp only [World.putObj]
    rw [Array.getElem?_setIfInBounds, if_neg (fun e => hq e.symm)]
  refine ⟨by simp [World.putObj], fun q o2 ho2 hc2 _ _ => ?_, fun v q hv hq => .inr ⟨v, ?_, hq⟩⟩
  · rw [hh q (fun e => by subst e; rw [ho] at ho2; cases ho2; rw [hc] at hc2; cases hc2)]
    exact ho2
  · unfold World.cell? at hv ⊢
    simp only at hv ⊢
    rw [hh O (by omega)] at hv
    exact hv
theorem RL.of_block {w w' : World} {base : Nat} {v : Value} {L : List RV} (h : RL w base v L) (k : ∀ g o, v.ownBlock = some g → w.heap[g]? = some o → w'.heap[g]? = some o) : RL w' base v L := by
  refine ⟨h.1, ?_⟩
  rcases h.2 with hn | ⟨g, cap, cur, rfl, hb, hgg, rest⟩
  · exact .inl hn
  · exact .inr ⟨g, cap, cur, rfl, hb, k g _ rfl hgg, rest⟩
/-- the iterator's own list, untouched by the body -/
structure AS (O : Nat) (W : World) (v : Value) (xs : List RV) (A : World) : Prop where
  li : RL A W.heap.size v xs
  ap : ∀ u q, A.cell? ⟨O, 0, none⟩ = some u → u.ownBlock = some q → v.ownBlock ≠ some q
  sz : W.heap.size ≤ A.heap.size
  lo : O < W.heap.size
theorem AS.below {O : Nat} {W : World} {v : Value} {xs : List RV} {A B : World} (h : AS O W v xs A) (b : Below A.heap.size A B) : AS O W v xs B :=
  ⟨h.li.below b, fun u q hu hq => h.ap u q (by rw [b.cell (p := ⟨O, 0, none⟩) (Nat.lt_of_lt_of_le h.lo h.sz)] at hu; exact hu) hq, Nat.le_trans h.sz b.size, h.lo⟩
theorem AS.ko {O : Nat} {W : World} {v : Value} {xs : List RV} {A B : World} (h : AS O W v xs A) (k : KO O A B) : AS O W v xs B := by
  have hc := h.li.cells
  refine ⟨h.li.of_block (fun g o hg ho => ?_), fun u q hu hq hv => ?_, Nat.le_trans h.sz k.size, h.lo⟩
  · obtain ⟨h1, h2, o', h3, h4⟩ := hc g hg
    rw [ho] at h3
    cases h3
    exact k.keep g o ho h4 (by have := h.lo; omega) (fun u hu hq => h.ap u g hu hq hg)
  · rcases k.own u q hu hq with e | ⟨u', h1, h2⟩
    · have := (hc q hv).2.1; omega
    · exact h.ap u' q h1 h2 hv
theorem wpListIn_mid_rte {F : Fence} {n : Nat} {ops : Array Oper} {rest : List Oper} {o : Oper} {a : Act} {w : World} {Q : Exit → Act → World → Prop} (x : Operand) (ho : o.op = .load 29 x) (O off : Nat) (rv : RV) (hx : a.eval x = .pointer (some ⟨O, off, none⟩)) (hb : w.rangeAt O off (rtC rv).toList)
    (hw : Region.wanted o (yielded ops a.tmps) = true) (h : wpListIn F n Tryd.prog ops Q rest (a.put o.dst (.agg (rtC rv))) w) : wpListIn F n Tryd.prog ops Q (o :: rest) a w :=
  stepIn (by rw [ho]; rfl) hw fun K hK => wp_load_mid 29 x ho O off hx (rtC rv).toList _ hb Tryd.underlying29 rfl Tryd.size_rte (hK _ _ h)
def Srt (R xs : List RV) : Prop := (∀ s, s ∈ xs ↔ s ∈ R) ∧ xs.Pairwise (fun a b => 0 ≤ ordV b a) ∧ xs.Pairwise (fun a b => eqP a.p b.p = false) ∧ xs.length = R.length
set_option maxHeartbeats 800000 in
theorem all_any (t : Nat) (w : World) : Calls Tryd.prog 12 #[.pointer (some ⟨t, 0, none⟩)] w fun e w' => e = .returned (.func (.func 19) #[] #[.pointer (some ⟨w.heap.size, 0, none⟩)]) ∧ w' = w.alloc (.cells #[.pointer (some ⟨t, 0, none⟩)] 31) := by
  go_enter Tryd.func12, Tryd.ntmps12
  go_wp2
  go_ret
  exact ⟨rfl, rfl⟩
set_option maxRecDepth 100000 in
set_option maxHeartbeats 3200000 in
theorem all_stops (hQ : SortsK) (n : Nat) (Bt O t M : Nat) (D : DataW Value) (R : List RV) (w : World) (hc : w.cell? ⟨Bt, 0, none⟩ = some (.pointer (some ⟨t, 0, none⟩))) (hT : TabAt w t M D R) (hl : R.length ≤ 256) (hO : O < w.heap.size) (hw : ∀ v q, w.cell? ⟨O, 0, none⟩ = some v → v.ownBlock = some q → q < w.heap.size) :
    SeqStopsK Fence.wide n Tryd.prog 19 #[.pointer (some ⟨Bt, 0, none⟩)] (fun r : RV => #[.agg (rtC r)]) (KO O) (fun xs => Srt R xs) (fun pre => ∃ xs j, Srt R xs ∧ pre = xs.take j) R.length w := fun l J Jx W hW hJ hJx hY h0 => by
  refine callsIn_of_wp Tryd.func19 rfl trivial ?_ rfl
  simp only [Tryd.ntmps19, List.size_toArray, List.length_cons, List.length_nil, Nat.reduceAdd, Nat.reduceSub, Array.replicate_succ, Array.replicate_zero, List.push_toArray, List.append_toArray, List.nil_append, List.cons_append]
  have c1 : W.cell? ⟨Bt, 0, none⟩ = some (.pointer (some ⟨t, 0, none⟩)) := (hW.cell (p := ⟨Bt, 0, none⟩) (World.block_lt_of_cell? w _ hc)).trans hc
  have QS : Hid _ := sorted_any hQ t M D R W (hT.below hW) hl
  have HO : Hid (O < W.heap.size ∧ ∀ v q, W.cell? ⟨O, 0, none⟩ = some v → v.ownBlock = some q → q < W.heap.size) := ⟨Nat.lt_of_lt_of_le hO hW.size, fun v q hv hq => by
    rw [hW.cell (p := ⟨O, 0, none⟩) hO] at hv
    exact Nat.lt_of_lt_of_le (hw v q hv hq) hW.size⟩
  have HY : Hid _ := hY
  have HJ : Hid _ := hJ
  have H0 : Hid (J [] W) := h0
  clear hY hJ h0 hc hT hO hw
  gi_wp2
  refine ⟨trivial, (fun h => by cases h), CallsIn.mono (callsIn_wide.2 QS.out) ?_⟩
  rintro e w1 ⟨v, rfl, xs, hRL, hmem, hso, hdj, hlen, hb1⟩
  obtain ⟨va, vc, hvf⟩ := hRL.form
  rw [hlen] at hvf
  subst hvf
  obtain ⟨N, hN⟩ : ∃ N, N = R.length := ⟨_, rfl⟩
  have HN : Hid (R.length = N) := hN.symm
  have HX : Hid (Srt R xs) := ⟨hmem, hso, hdj, hlen⟩
  have HR1 : Hid (RL w1 W.heap.size (.slice va N vc) xs ∧ J [] w1 ∧ Below W.heap.size W w1) := ⟨by rw [hN]; exact hRL, HJ.out [] W w1 none H0.out ⟨hb1.os, hb1.tape, hb1.output, hb1.size, fun k hk _ => hb1.block k hk⟩ (fun r e => by cases e), hb1⟩
  rw [← hN]
  have HA1 : Hid (AS O W (.slice va N vc) xs w1 ∧ J [] w1) := ⟨⟨HR1.out.1, fun u q hu hq hv => by
    rw [HR1.out.2.2.cell (p := ⟨O, 0, none⟩) HO.out.1] at hu
    have h1 := HO.out.2 u q hu hq
    have h2 := (HR1.out.1.cells q hv).1
    omega, HR1.out.2.2.size, HO.out.1⟩, HR1.out.2.1⟩
  have HN2 : Hid (N ≤ 256) := by show N ≤ 256; rw [hN]; exact hl
  clear hmem hso hdj hlen hRL hb1 QS H0 c1 hN HR1 hl
  gi_wp2
  gi_loopw [8] (fun ix wr => ∃ j : Nat, ix = .int .i64 j ∧ j ≤ N ∧ Hid (AS O W (.slice va N vc) xs wr ∧ J (xs.take j) wr)) (fun ix _ => N - (intOf ix).toNat)
  case atStart => exact ⟨0, rfl, Nat.zero_le _, HA1⟩
  case round =>
    obtain ⟨j, rfl, hj, HR⟩ := hrel
    clear HA1
    by_cases hlt : j < N
    · have k0 : (0 : Int) ≤ (j : Int) := by omega
      have k1 : (j : Int) < (N : Int) := by omega
      have k2 : ((j : Int)).toNat = j := by omega
      have wj : IntKind.i64.wrap ((j : Int) + 1) = (j : Int) + 1 := by have := HN2.out; rw [IntKind.wrap_i64]; omega
      obtain ⟨s, hs⟩ : ∃ s, xs[j]? = some s := ⟨_, List.getElem?_eq_getElem (by rw [HX.out.2.2.2, HN.out]; exact hlt)⟩
      obtain ⟨g, cap, hvg, hg1, hg2, hrg⟩ := HR.out.1.li.at j s hs
      simp only [Value.slice.injEq] at hvg
      obtain ⟨rfl, hNx, rfl⟩ := hvg
      clear hNx
      have HRG : Hid (wr.rangeAt g (j * 36) (rtC s).toList) := hrg
      have HS : Hid (xs[j]? = some s ∧ j < N ∧ xs.take (j + 1) = xs.take j ++ [s]) := ⟨hs, hlt, by rw [List.take_add_one, hs]; rfl⟩
      clear hs hg1 hg2 hrg hj hlt
      gi_wp2_with (first | (refine wpListIn_mid_rte (.tmp 10) rfl g (j * 36) s rfl HRG.out rfl ?_) | (refine wpListIn_alloc_rte rfl rfl ?_) | (refine wpListIn_store_rte (.tmp 4) (.tmp 11) rfl rfl wr.heap.size rz s rfl rfl (rte_new wr rz) rfl ?_))
      intro w3 hR3 k3
      have bz : Below wr.heap.size wr (wr.alloc (.cells (rtC rz) 29)) := (Below.refl _ _).alloc (Nat.le_refl _) _
      have b3 : Below wr.heap.size wr w3 := bz.trans (k3.below (fun q e => by have e' : q = wr.heap.size := e; omega) bz.size)
      have HR3 : Hid (RteAt w3 wr.heap.size s) := hR3
      have HJ3 : Hid (J (xs.take j) w3 ∧ AS O W (.slice (some ⟨g, 0, none⟩) N vc) xs w3) := ⟨HJ.out _ wr w3 none HR.out.2 ⟨b3.os, b3.tape, b3.output, b3.size, fun k hk _ => b3.block k hk⟩ (fun r e => by cases e), HR.out.1.below b3⟩
      clear hR3 k3 bz b3 HR HRG
      obtain ⟨yfn, ytm, yas, ybd, hy, hR⟩ := HY.out (xs.take j) s w3 HJ3.out.1 (by rw [HN.out, List.length_take]; have := HS.out.2.1; omega)
      have HRD : Hid _ := hR
      clear hR
      gi_wp2_with (first | (refine wpListIn_load_rte (.tmp 4) rfl wr.heap.size s rfl HR3.out rfl ?_))
      refine ⟨(fun h => by cases h), RoundIn.mono HRD.out ?_⟩
      rintro e w4 (⟨rfl, hJ4, hk4⟩ | ⟨rfl, hJx4⟩)
      · have HJ4 : Hid (AS O W (.slice (some ⟨g, 0, none⟩) N vc) xs w4 ∧ J (xs.take (j + 1)) w4) := ⟨HJ3.out.2.ko hk4, by rw [HS.out.2.2]; exact hJ4⟩
        clear hJ4 hk4 HRD hy HJ3 HR3
        gi_wp2
        go_roundw
        case rel => exact ⟨j + 1, by simp, by have := HS.out.2.1; omega, HJ4⟩
        case measure => have := HS.out.2.1; simp [intOf]; omega
      · have HJ4 : Hid (Jx (xs.take (j + 1)) w4) := by show Jx _ w4; rw [HS.out.2.2]; exact hJx4
        clear hJx4 HRD hy HJ3 HR3
        gi_wp2
        refine bodyPost_ret (results_none rfl _ _ _) rfl ?_
        exact ⟨⟨_, rfl⟩, .inr ⟨_, ⟨xs, j + 1, HX.out, rfl⟩, HJ4.out⟩⟩
    · have k1 : ¬ (j : Int) < (N : Int) := by omega
      have HE : Hid (J xs wr) := by
        have h1 := HR.out.2
        rw [List.take_of_length_le (by rw [HX.out.2.2.2, HN.out]; omega)] at h1
        exact h1
      clear hlt
      gi_wp2
      go_end0
      exact ⟨⟨_, rfl⟩, .inl ⟨xs, HX.out, HE.out⟩⟩
end Go.Proofs.YtdjbfhllialinaaDoor
