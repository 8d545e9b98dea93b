/-
  Layer 14: route0, and filled: a table with these routes, and these.
-/
import Derived.Test.YtdjbfhllialinaaDoorRtGl
namespace Go.Proofs.YtdjbfhllialinaaDoor
open Go.RowKit Go.Maps

def r0 : RV := ⟨⟨4, fun j => if j = 0 then 10 else 0, 8⟩, 1, 0, fun _ => 0⟩
set_option maxHeartbeats 1600000 in
set_option maxRecDepth 100000 in
theorem route0_any (w : World) : Calls Tryd.prog 8 #[] w fun e w' => e = .returned (.agg (rtC r0)) ∧ Below w.heap.size w w' := by
  go_enter Tryd.func8, Tryd.ntmps8
  go_wp2_with (first | (refine wpList_alloc_rte rfl rfl ?_) | (refine wpList_store_rte (.tmp 0) (.tmp 4) rfl rfl w.heap.size rz r0 rfl rfl (rte_new w rz) rfl ?_))
  intro w1 hR k
  have HR : Hid (RteAt w1 w.heap.size r0) := hR
  have bz : Below w.heap.size w (w.alloc (.cells (rtC rz) 29)) := (Below.refl _ _).alloc (Nat.le_refl _) _
  have HB : Hid (Below w.heap.size w w1) := bz.trans (k.below (fun q e => by have e' : q = w.heap.size := e; omega) bz.size)
  clear hR k bz
  go_wp2
  refine bodyPost_ret (results_rte rfl _ _ w.heap.size r0 rfl HR.out) rfl ?_
  exact ⟨rfl, HB.out⟩
def fillR (rs : List RV) : List RV := rs.foldl addR []
theorem fillR_snoc (rs : List RV) (r : RV) : fillR (rs ++ [r]) = addR (fillR rs) r := by simp [fillR]
theorem addR_cases (R : List RV) (r : RV) : (addE R r = 0 ∧ addR R r = R ++ [r]) ∨ (addE R r ≠ 0 ∧ addR R r = R) := by
  by_cases h : addE R r = 0
  · exact .inl ⟨h, by unfold addR; rw [if_pos h]⟩
  · exact .inr ⟨h, by unfold addR; rw [if_neg h]⟩
theorem addE_zero {R : List RV} {r : RV} (h : addE R r = 0) : chkR r = 0 ∧ fnd R r.p = none ∧ R.length < 256 := by
  unfold addE at h
  split at h
  · rename_i h1
    split at h
    · cases h
    · rename_i h2
      split at h
      · cases h
      · rename_i h3
        refine ⟨h1, ?_, by omega⟩
        cases hf : fnd R r.p with
        | none => rfl
        | some _ => rw [hf] at h2; exact absurd rfl h2
  · exact absurd h (by assumption)
theorem foldl_inv {P : List RV → Prop} (rs : List RV) (R : List RV) (h : P R) (hs : ∀ R r, r ∈ rs → P R → P (addR R r)) : P (rs.foldl addR R) := by
  induction rs generalizing R with
  | nil => exact h
  | cons r rs ih => exact ih (addR R r) (hs R r (by simp) h) (fun R' r' hr' => hs R' r' (by simp [hr']))
theorem fillR_len (rs : List RV) : (fillR rs).length ≤ 256 := by
  refine foldl_inv (P := fun R => R.length ≤ 256) rs [] (by simp) (fun R r _ h => ?_)
  rcases addR_cases R r with ⟨h1, h2⟩ | ⟨_, h2⟩
  · rw [h2]; have := (addE_zero h1).2.2; simp; omega
  · rw [h2]; exact h
theorem fillR_ok (rs : List RV) (h : ∀ r ∈ rs, ROk r) : ∀ r ∈ fillR rs, ROk r ∧ chkR r = 0 := by
  refine foldl_inv (P := fun R => ∀ r ∈ R, ROk r ∧ chkR r = 0) rs [] (by simp) (fun R r hr hR => ?_)
  rcases addR_cases R r with ⟨h1, h2⟩ | ⟨_, h2⟩
  · rw [h2]
    intro y hy
    rcases List.mem_append.1 hy with hy | hy
    · exact hR y hy
    · simp only [List.mem_singleton] at hy; subst hy; exact ⟨h y hr, (addE_zero h1).1⟩
  · rw [h2]; exact hR
theorem fillR_ne (r : RV) (rs : List RV) (h : chkR r = 0) : fillR (r :: rs) ≠ [] := by
  have h0 : addR [] r = [r] := by
    unfold addR addE
    rw [if_pos h]
    simp [fnd]
  unfold fillR
  rw [List.foldl_cons, h0]
  refine foldl_inv (P := fun R => R ≠ []) rs [r] (by simp) (fun R r' _ hR => ?_)
  rcases addR_cases R r' with ⟨_, h2⟩ | ⟨_, h2⟩
  · rw [h2]; simp
  · rw [h2]; exact hR
theorem TS.far {w : World} {t M : Nat} {R : List RV} {A A' : World} {S : Nat → Prop} (h : TS w t M R A) (k : Ch S A A') (h1 : ¬ S t) (h2 : ¬ S M) (h3 : ∀ q, S q → w.heap.size ≤ q) : TS w t M R A' := by
  obtain ⟨D, hD⟩ := h.tab
  exact { h with tab := ⟨D, hD.ch k h1 h2⟩, bel := h.bel.trans (k.below h3 h.bel.size), spe := h.spe.ch k (fun e => by have := h3 _ e; have := h.gl; omega) }
structure FS (w : World) (t M : Nat) (R L : List RV) (v : Value) (A : World) : Prop where
  ts : TS w t M R A
  li : RL A w.heap.size v L
  ne : ∀ g, v.ownBlock = some g → g ≠ t ∧ g ≠ M
  lt : t < A.heap.size ∧ M < A.heap.size
theorem FS.below {w : World} {t M : Nat} {R L : List RV} {v : Value} {A A' : World} (h : FS w t M R L v A) (b : Below A.heap.size A A') : FS w t M R L v A' := ⟨h.ts.below b, h.li.below b, h.ne, by have := b.size; have := h.lt; omega⟩
theorem FS.add {w : World} {t M : Nat} {R L R' : List RV} {v : Value} {A A' : World} (h : FS w t M R L v A) (k : Ch (fun q => q = M) A A') (ht : TS w t M R' A') : FS w t M R' L v A' := ⟨ht, h.li.ch k (fun g hg => (h.ne g hg).2), h.ne, by have := k.size; have := h.lt; omega⟩
theorem FS.app {w : World} {t M : Nat} {R L L' : List RV} {v v' : Value} {A A' : World} (h : FS w t M R L v A) (hg : A.grownBy A' v.ownBlock) (hl : RL A' w.heap.size v' L') (hv : v'.ownBlock = v.ownBlock ∨ v'.ownBlock = some A.heap.size) : FS w t M R L' v' A' := by
  refine ⟨h.ts.far (Ch.ofGrown hg) (fun e => (h.ne t e).1 rfl) (fun e => (h.ne M e).2 rfl) (fun q e => (h.li.cells q e).1), hl, fun g hg' => ?_, by have := hg.size; have := h.lt; omega⟩
  rcases hv with e | e
  · exact h.ne g (by rw [← e]; exact hg')
  · rw [e] at hg'
    cases hg'
    have := h.lt
    omega
def rcL (r : RV) : List Value := (rtC r).toList
theorem rcL_len (r : RV) : (rcL r).length = 36 := rfl
theorem listG_range {w : World} {la : Option Addr} {rs : List RV} (h : ListG 36 rcL ROk w la rs) (k : Nat) (r : RV) (hr : rs[k]? = some r) : ∃ b off, la = some ⟨b, off, none⟩ ∧ b < w.heap.size ∧ w.rangeAt b (off + k * 36) (rtC r).toList := by
  obtain ⟨_, b, off, h1, h2, h3⟩ := h.at k r hr
  refine ⟨b, off, h1, h2, fun j u hj => ?_⟩
  have hj' : j < 36 := (List.getElem?_eq_some_iff.1 hj).1
  rw [h3 j hj']
  exact hj
theorem range_old {w x : World} {b off : Nat} {l : List Value} (h : w.rangeAt b off l) (hb : Below w.heap.size w x) (hlt : b < w.heap.size) : x.rangeAt b off l := fun j u hj => (hb.cell (p := ⟨b, off + j, none⟩) hlt).trans (h j u hj)
set_option maxHeartbeats 6400000 in
set_option maxRecDepth 100000 in
theorem filled_any (la : Option Addr) (n lc : Nat) (rs : List RV) (w : World) (hs : Spe8 w) (hn : rs.length = n) (hl : ListG 36 rcL ROk w la rs) :
    Calls Tryd.prog 4 #[.slice la n lc] w fun e w' => ∃ t M v, e = .returned (.tuple #[.pointer (some ⟨t, 0, none⟩), v]) ∧ FS w t M (fillR (rs.take 600)) (fillR (rs.take 600)) v w' := by
  have QN : Hid _ := TS.new w w (Below.refl _ _) hs
  have HL : Hid (ListG 36 rcL ROk w la rs) := hl
  have HN : Hid (rs.length = n) := hn
  clear hs hl hn
  go_enter Tryd.func4, Tryd.ntmps4
  go_wp2_with fail
  refine Calls.mono QN.out ?_
  rintro e w1 ⟨t, M, rfl, hT, _, _⟩
  have H0 : Hid (FS w t M (fillR (rs.take 0)) (fillR (rs.take 0)) (.slice none 0 0) w1) := by
    obtain ⟨D, hD⟩ := hT.tab
    exact ⟨hT, RL.nil _ _, fun g hg => by simp [Value.ownBlock] at hg, hD.lt⟩
  clear hT QN
  go_wp2_with fail
  go_loopw [5, 6] (fun l ix wr => ∃ (k : Nat) (v : Value), v = l ∧ ix = .int .i64 k ∧ k ≤ n ∧ k ≤ 600 ∧ Hid (FS w t M (fillR (rs.take k)) (fillR (rs.take k)) v wr)) (fun _ ix _ => n - (intOf ix).toNat)
  case atStart => exact ⟨0, _, rfl, rfl, Nat.zero_le _, Nat.zero_le _, H0⟩
  case round =>
    obtain ⟨k, v, rfl, rfl, hk, hk6, HS⟩ := hrel
    clear H0
    by_cases hlt : k < n
    · have k0 : (0 : Int) ≤ (k : Int) := by omega
      have k1 : (k : Int) < (n : Int) := by omega
      have k2 : ((k : Int)).toNat = k := by omega
      by_cases h6 : k < 600
      · have k6 : (k : Int) < 600 := by omega
        obtain ⟨r, hr⟩ : ∃ r, rs[k]? = some r := ⟨_, List.getElem?_eq_getElem (by rw [HN.out]; exact hlt)⟩
        obtain ⟨b, off, rfl, hb, hrg⟩ := listG_range HL.out k r hr
        have F : Hid (∀ x, Below w.heap.size w x → x.rangeAt b (off + k * 36) (rtC r).toList) := fun x hx => range_old hrg hx hb
        have HOK : Hid (ROk r) := (HL.out.at k r hr).1
        have HT : Hid (rs.take (k + 1) = rs.take k ++ [r]) := by show _ = _; rw [List.take_add_one, hr]; rfl
        obtain ⟨R, hR⟩ : ∃ R, R = fillR (rs.take k) := ⟨_, rfl⟩
        rw [← hR] at HS
        have HF : Hid (fillR (rs.take (k + 1)) = addR R r ∧ R.length ≤ 256) := ⟨by rw [HT.out, fillR_snoc, hR], by rw [hR]; exact fillR_len _⟩
        have wk : IntKind.i64.wrap ((k : Int) + 1) = (k : Int) + 1 := by rw [IntKind.wrap_i64]; omega
        have HK : Hid (k < n ∧ k < 600) := ⟨hlt, h6⟩
        clear hr hrg hb HT hR hk hk6
        go_wp2_with (first | (refine wpList_mid_rte (.tmp 23) rfl b (off + k * 36) r rfl (F.out _ HS.out.ts.bel) rfl ?_))
        refine Calls.mono (HS.out.ts.add r HOK.out.1 HOK.out.2 (by have := HF.out.2; omega)) ?_
        rintro e w2 ⟨rfl, hT2, kk⟩
        rcases addR_cases R r with ⟨he, hR2⟩ | ⟨he, hR2⟩
        · rw [he]
          rw [hR2] at hT2
          have HS2 : Hid (FS w t M (R ++ [r]) R v w2) := HS.out.add kk hT2
          have HF2 : Hid (fillR (rs.take (k + 1)) = R ++ [r]) := by show _ = _; rw [HF.out.1, hR2]
          clear hT2 kk HS he hR2
          have bz : Below w2.heap.size w2 (w2.alloc (.cells (rtC r) 29)) := (Below.refl _ _).alloc (Nat.le_refl _) _
          have HS3 : Hid (FS w t M (R ++ [r]) R v (w2.alloc (.cells (rtC r) 29))) := HS2.out.below bz
          clear bz
          go_wp2_with (first | (refine wpList_mid_rte (.tmp 30) rfl b (off + k * 36) r rfl (F.out _ HS2.out.ts.bel) rfl ?_) | (refine wpList_bs1 (.tmp 31) rfl r rfl rfl ?_) | (refine wpList_app1 rfl (.tmp 27) (.tmp 32) rfl w.heap.size v R rfl HS3.out.li w2.heap.size r rfl (rte_new w2 r) (by have := HF.out.2; omega) HS3.out.ts.bel.size ?_))
          intro v' w3 hl3 hg3 hv3
          have HS4 : Hid (FS w t M (R ++ [r]) (R ++ [r]) v' w3) := HS3.out.app hg3 hl3 (by rw [World.size_alloc]; exact hv3)
          clear hl3 hg3 hv3
          go_wp2_with fail
          go_roundw
          case rel => exact ⟨k + 1, _, rfl, by simp, by have := HK.out; omega, by have := HK.out; omega, by rw [HF2.out]; exact HS4⟩
          case measure => have := HK.out; simp [intOf]; omega
        · obtain ⟨q, hq⟩ : ∃ q, q = addE R r := ⟨_, rfl⟩
          rw [← hq] at he ⊢
          rw [hR2] at hT2
          have hq0 : ((q : Int) == 0) = false := by simpa using he
          have hq1 : ¬ (q : Int) = 0 := by omega
          have HS2 : Hid (FS w t M R R v w2) := HS.out.add kk hT2
          have HF2 : Hid (fillR (rs.take (k + 1)) = R) := by show _ = _; rw [HF.out.1, hR2]
          clear hT2 kk HS hR2 hq
          go_wp2_with fail
          go_roundw
          case rel => exact ⟨k + 1, _, rfl, by simp, by have := HK.out; omega, by have := HK.out; omega, by rw [HF2.out]; exact HS2⟩
          case measure => have := HK.out; simp [intOf]; omega
      · have k6 : ¬ (k : Int) < 600 := by omega
        have hk7 : k = 600 := by omega
        clear h6
        have HR : Hid (FS w t M (fillR (rs.take 600)) (fillR (rs.take 600)) v wr) := by have := HS.out; rw [hk7] at this; exact this
        clear HS hk7 hk6
        go_wp2_with fail
        go_ret2
        exact ⟨t, M, v, rfl, HR.out⟩
    · have k1 : ¬ (k : Int) < (n : Int) := by omega
      have HR : Hid (FS w t M (fillR (rs.take 600)) (fillR (rs.take 600)) v wr) := by
        have := HS.out
        have e1 : rs.take k = rs := List.take_of_length_le (by rw [HN.out]; omega)
        have e2 : rs.take 600 = rs := List.take_of_length_le (by rw [HN.out]; omega)
        rw [e1] at this
        rw [e2]
        exact this
      clear HS hlt
      go_wp2_with fail
      go_ret2
      exact ⟨t, M, v, rfl, HR.out⟩
end Go.Proofs.YtdjbfhllialinaaDoor
