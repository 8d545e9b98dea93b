/-
  weirref4: Contains.
-/
import Derived.Test.YtclpeepnngegaaaDoorR4d
namespace Go.Proofs.YtclpeepnngegaaaDoor
open Go.RowKit Go.Maps

theorem IprAt.rng {w : World} {O : Nat} {V : Int} {x : Nat → Nat} (h : IprAt w O V x) : w.rangeAt O 0 (ipCells V x).toList := by
  intro j v hj
  rw [h.cell, Nat.zero_add, ← Array.getElem?_toList]
  exact hj
/-- does the address lie in the prefix? -/
def cnR (p : PV) (V : Int) (x : Nat → Nat) : Bool := vpR p == 0 && vR V x && p.V == V && (List.range p.n.toNat).all fun i => btN p.x i == btN x i
theorem vpR_zero {p : PV} (h : vpR p = 0) : 0 ≤ p.n ∧ p.n ≤ 128 := by
  unfold vpR at h
  have := wdN_le p.V
  split at h
  · split at h
    · cases h
    · rename_i h2
      simp at h2
      omega
  · cases h
set_option maxHeartbeats 1600000 in
set_option maxRecDepth 100000 in
theorem containsR_any (p : PV) (V : Int) (x : Nat → Nat) (w : World) (hp : ∀ i, i < 16 → p.x i < 256) (hx : ∀ i, i < 16 → x i < 256) : Calls Tryd.prog 67 #[.agg (pfC p), .agg (ipCells V x)] w fun r w' => r = .returned (.bool (cnR p V x)) ∧ Below w.heap.size w w' := by
  have hb := pfx_new w p
  have bel : Below w.heap.size w (w.alloc (.cells (pfC p) 114)) := (Below.refl _ _).alloc (Nat.le_refl _) _
  obtain ⟨CX, hC⟩ : ∃ C, C = pfC p := ⟨_, rfl⟩
  obtain ⟨W, hW⟩ : ∃ W_, W_ = w.alloc (.cells (pfC p) 114) := ⟨_, rfl⟩
  rw [← hW] at hb bel
  have HSZX : Hid (W.heap.size = w.heap.size + 1) := by show _ = _; rw [hW, World.size_alloc]
  obtain ⟨B, hB⟩ : ∃ B, B = w.heap.size := ⟨_, rfl⟩
  rw [← hB] at hb
  have HBX : Hid (PfxAt W B p) := hb
  rw [← hC] at hW ⊢
  have HOX : Hid (w.heap.size = B) := hB.symm
  have HLX : Hid (Below w.heap.size w W) := bel
  have HWX : Hid (w.alloc (.cells CX 114) = W) := hW.symm
  clear hb hW hB hC bel
  have hb := ipr_new W V x
  have bel : Below W.heap.size W (W.alloc (.cells (ipCells V x) 24)) := (Below.refl _ _).alloc (Nat.le_refl _) _
  obtain ⟨CY, hC⟩ : ∃ C, C = ipCells V x := ⟨_, rfl⟩
  obtain ⟨Y, hW⟩ : ∃ W_, W_ = W.alloc (.cells (ipCells V x) 24) := ⟨_, rfl⟩
  rw [← hW] at hb bel
  have HSZY : Hid (Y.heap.size = W.heap.size + 1) := by show _ = _; rw [hW, World.size_alloc]
  obtain ⟨I, hB⟩ : ∃ B, B = W.heap.size := ⟨_, rfl⟩
  rw [← hB] at hb
  have HBY : Hid (IprAt Y I V x) := hb
  rw [← hC] at hW ⊢
  have HOY : Hid (W.heap.size = I) := hB.symm
  have HLY : Hid (Below W.heap.size W Y) := bel
  have HWY : Hid (W.alloc (.cells CY 24) = Y) := hW.symm
  clear hb hW hB hC bel
  have HPX : Hid (∀ i, i < 16 → p.x i < 256) := hp
  have HXX : Hid (∀ i, i < 16 → x i < 256) := hx
  have H0 : Hid (PfxAt Y B p ∧ IprAt Y I V x ∧ Below w.heap.size w Y) := ⟨HBX.out.below HLY.out, HBY.out, bthen HLX.out HLY.out⟩
  clear hp hx
  obtain ⟨e, he⟩ : ∃ e, vpR p = e := ⟨_, rfl⟩
  have HE : Hid (vpR p = e) := he
  obtain ⟨b, hb⟩ : ∃ b, vR V x = b := ⟨_, rfl⟩
  have HB : Hid (vR V x = b) := hb
  clear he hb
  go_enter Tryd.func67, Tryd.ntmps67
  go_wp2_with (first | (rw [HOX.out, HWX.out]) | (rw [HOY.out, HWY.out]) | (refine wpList_load_pfx (.tmp 2) rfl B p rfl H0.out.1 rfl ?_))
  refine (validPrefixR_any p Y HPX.out).mono ?_
  rintro e1 w1 ⟨rfl, b1⟩
  rw [HE.out]
  have H1 : Hid (PfxAt w1 B p ∧ IprAt w1 I V x ∧ Below w.heap.size w w1) := ⟨H0.out.1.below b1, H0.out.2.1.below b1, bthen H0.out.2.2 b1⟩
  clear b1 H0
  go_wp2_with (first | (refine wpList_load_ipr (.tmp 3) rfl I V x rfl H1.out.2.1 rfl ?_))
  refine (validR_any V x w1).mono ?_
  rintro e1 w2 ⟨rfl, b2⟩
  rw [HB.out]
  have H2 : Hid (PfxAt w2 B p ∧ IprAt w2 I V x ∧ Below w.heap.size w w2) := ⟨H1.out.1.below b2, H1.out.2.1.below b2, bthen H1.out.2.2 b2⟩
  clear b2 H1
  have cp := H2.out.1.ver
  have ci := H2.out.2.1.ver
  by_cases h0 : e = 0
  · subst h0
    cases b with
    | false =>
      have HR : Hid (cnR p V x = false) := by show _ = _; unfold cnR; rw [HB.out]; simp
      go_wp2
      go_ret
      exact ⟨by rw [HR.out]; rfl, H2.out.2.2⟩
    | true =>
      by_cases hv : p.V = V
      · have q1 : (p.V == V) = true := by simp [hv]
        have q2 : (p.V != V) = false := by simp [hv]
        have HR : Hid (cnR p V x = (List.range p.n.toNat).all fun i => btN p.x i == btN x i) := by show _ = _; unfold cnR; rw [HB.out, HE.out, q1]; rfl
        clear hv
        obtain ⟨n, hn⟩ : ∃ n : Nat, p.n = (n : Int) := ⟨p.n.toNat, by have := vpR_zero HE.out; omega⟩
        have HN : Hid (p.n = (n : Int)) := hn
        have H128 : Hid (n ≤ 128) := by have := vpR_zero HE.out; show n ≤ 128; omega
        have HR2 : Hid (cnR p V x = (List.range n).all fun i => btN p.x i == btN x i) := by show _ = _; rw [HR.out, hn]; rfl
        clear hn HR
        go_wp2
        go_loopw [7] (fun ix wr => ∃ k : Nat, k ≤ n ∧ ix = .int .i64 (k : Nat) ∧ (∀ i, i < k → btN p.x i = btN x i) ∧ Hid (PfxAt wr B p ∧ IprAt wr I V x ∧ Below w.heap.size w wr)) (fun ix _ => n - (intOf ix).toNat)
        case atStart => exact ⟨0, by omega, rfl, fun i h => by omega, H2.out⟩
        case round =>
          obtain ⟨k, hk, rfl, hN, H3⟩ := hrel
          have HNK : Hid (∀ i, i < k → btN p.x i = btN x i) := hN
          clear hN cp ci
          have c17 : wr.cell? ⟨B, 17, none⟩ = some (.int .i64 (n : Int)) := by rw [← HN.out]; exact H3.out.1.len
          by_cases hlt : k < n
          · have p1 : decide ((k : Int) < (n : Int)) = true := decide_eq_true (by omega)
            have p0 : decide (k < n) = true := decide_eq_true hlt
            have w1 : IntKind.i64.wrap ((k : Int) + 1) = (k : Int) + 1 := i64_s _ (by omega) (by have := H128.out; omega)
            have HLT : Hid (k < n) := hlt
            have HK128 : Hid (k < 128) := by have := H128.out; show k < 128; omega
            clear hlt hk
            go_upto_region 8 with fail
            refine MixH.start (fun A => PfxAt A B p ∧ IprAt A I V x ∧ Below w.heap.size w A) (by kernel_rfl) ?_
            obtain ⟨wA, hwA⟩ : ∃ wA, wA = wr.drew := ⟨_, rfl⟩
            have bdr : Below wr.heap.size wr wA := by rw [hwA]; exact (Below.refl _ _).drew
            have hS : PfxAt wA B p ∧ IprAt wA I V x ∧ Below w.heap.size w wA := ⟨H3.out.1.below bdr, H3.out.2.1.below bdr, bthen H3.out.2.2 bdr⟩
            rw [← hwA]
            clear hwA bdr H3 c17
            refine MixH.takes [true, false, true, false, false, true] 5 (by kernel_rfl) (by kernel_rfl) (by decide) (by kernel_rfl) hS (fun K hK => ?_)
            simp only [Mix.pick]
            repeat (go_big_quiet_step (fail))
            refine wpQuiet_nil (hK _ ?_)
            clear hK K
            refine MixH.take 4 1 _ (.agg (ipCells p.V p.x)) rfl (by kernel_rfl) (by kernel_rfl) (by kernel_rfl) (by kernel_rfl) (yields_ipr (.tmp 32) rfl B 0 p.V p.x rfl rfl (fun A hA => hA.1.ip)) hS (fun a' ha => ?_)
            simp only [Act.put, List.setIfInBounds_toArray, List.set_cons_succ, List.set_cons_zero] at ha
            subst ha
            refine MixH.take 3 4 _ (.agg (ipCells V x)) rfl (by kernel_rfl) (by kernel_rfl) (by kernel_rfl) (by kernel_rfl) (yields_ipr (.tmp 3) rfl I 0 V x rfl rfl (fun A hA => hA.2.1.rng)) hS (fun a' ha => ?_)
            simp only [Act.put, List.setIfInBounds_toArray, List.set_cons_succ, List.set_cons_zero] at ha
            subst ha
            refine MixH.one [false, false, false, true] 2 3 _ rfl rfl (by kernel_rfl) (by kernel_rfl) (fun K hK => ?_)
            simp only [Mix.pick]
            go_wp2_with fail
            refine Calls.mono (bit_any p.V p.x k wA HK128.out HPX.out) ?_
            rintro e1 wB ⟨rfl, gz⟩
            replace hS : PfxAt wB B p ∧ IprAt wB I V x ∧ Below w.heap.size w wB := ⟨hS.1.below gz, hS.2.1.below gz, bthen hS.2.2 gz⟩
            clear gz
            go_wp2_with fail
            refine ⟨rfl, hK _ _ hS ?_⟩
            clear hK K
            refine MixH.one [false, false, false, false, false, false, true] 1 6 _ rfl rfl (by kernel_rfl) (by kernel_rfl) (fun K hK => ?_)
            simp only [Mix.pick]
            go_wp2_with fail
            refine Calls.mono (bit_any V x k wB HK128.out HXX.out) ?_
            rintro e1 wC ⟨rfl, gz⟩
            replace hS : PfxAt wC B p ∧ IprAt wC I V x ∧ Below w.heap.size w wC := ⟨hS.1.below gz, hS.2.1.below gz, bthen hS.2.2 gz⟩
            clear gz
            go_wp2_with fail
            refine ⟨rfl, hK _ _ hS ?_⟩
            clear hK K
            refine MixH.takes [false, false, false, false, false, false, false, true] 0 (by kernel_rfl) (by kernel_rfl) (by decide) (by kernel_rfl) hS (fun K hK => ?_)
            simp only [Mix.pick]
            repeat (go_big_quiet_step (fail))
            refine wpQuiet_nil (hK _ ?_)
            clear hK K
            refine MixH.done (by kernel_rfl) ?_
            have H4 : Hid (PfxAt wC B p ∧ IprAt wC I V x ∧ Below w.heap.size w wC) := hS
            clear hS
            by_cases he : btN p.x k = btN x k
            · have qe : (((btN p.x k : Nat) : Int) == ((btN x k : Nat) : Int)) = true := by simp [he]
              have qn : (((btN p.x k : Nat) : Int) != ((btN x k : Nat) : Int)) = false := by simp [he]
              have HEE : Hid (btN p.x k = btN x k) := he
              clear he
              go_wp2
              go_roundw
              case rel => exact ⟨k + 1, HLT.out, by simp, fun i h2 => if h : i = k then h ▸ HEE.out else HNK.out i (by omega), H4.out⟩
              case measure => have := HLT.out; simp [intOf]; omega
            · have qe : (((btN p.x k : Nat) : Int) == ((btN x k : Nat) : Int)) = false := by simp; omega
              have qn : (((btN p.x k : Nat) : Int) != ((btN x k : Nat) : Int)) = true := by simp; omega
              have HZ : Hid (cnR p V x = false) := by
                show _ = _
                rw [HR2.out, List.all_eq_false]
                exact ⟨k, List.mem_range.2 HLT.out, by simp [he]⟩
              clear he
              go_wp2
              go_ret
              exact ⟨by rw [HZ.out]; rfl, H4.out.2.2⟩
          · have p1 : decide ((k : Int) < (n : Int)) = false := decide_eq_false (by omega)
            have p0 : decide (k < n) = false := decide_eq_false hlt
            have HZ : Hid (cnR p V x = true) := by
              show _ = _
              rw [HR2.out, List.all_eq_true]
              intro i hi
              have h1 := List.mem_range.1 hi
              simp [HNK.out i (by omega)]
            clear hlt
            go_wp2
            go_ret
            exact ⟨by rw [HZ.out]; rfl, H3.out.2.2⟩
      · have q1 : (p.V == V) = false := by simp [hv]
        have q2 : (p.V != V) = true := by simp [hv]
        have HR : Hid (cnR p V x = false) := by show _ = _; unfold cnR; rw [q1]; simp
        clear hv
        go_wp2
        go_ret
        exact ⟨by rw [HR.out]; rfl, H2.out.2.2⟩
  · have q1 : ((e : Int) == 0) = false := by simp [h0]
    have q2 : ((e : Int) != 0) = true := by simp [h0]
    have HR : Hid (cnR p V x = false) := by show _ = _; unfold cnR; rw [HE.out]; simp [h0]
    clear h0
    go_wp2
    go_ret
    exact ⟨by rw [HR.out]; rfl, H2.out.2.2⟩
end Go.Proofs.YtclpeepnngegaaaDoor
