/-
  Layer 14: sorted, the walk; slices.SortFunc's contract is its premise.
-/
import Derived.Test.YtdjbfhllialinaaDoorRtSo
namespace Go.Proofs.YtdjbfhllialinaaDoor
open Go.RowKit Go.Maps

def SortsK : Prop := ∀ (A : World) (base : Nat) (v : Value) (L : List RV), RL A base v L → (∃ g c, v = .slice (some ⟨g, 0, none⟩) L.length c) → L.length ≤ 256 → Calls Tryd.prog 25 #[v, .func (.func 26) #[] #[]] A fun e w' => e = .returned (.tuple #[]) ∧ ∃ L', L'.Perm L ∧ L'.Pairwise (fun a b => 0 ≤ ordV b a) ∧ RL w' base v L' ∧ Ch (fun q => v.ownBlock = some q) A w'
set_option maxHeartbeats 6400000 in
set_option maxRecDepth 100000 in
theorem sorted_any (hQ : SortsK) (t M : Nat) (D : DataW Value) (R : List RV) (w : World) (h : TabAt w t M D R) (hl : R.length ≤ 256) : Calls Tryd.prog 20 #[.pointer (some ⟨t, 0, none⟩)] w fun e w' => ∃ v, e = .returned v ∧ ∃ L, RL w' w.heap.size v L ∧ (∀ s, s ∈ L ↔ s ∈ R) ∧ L.Pairwise (fun a b => 0 ≤ ordV b a) ∧ L.Pairwise (fun a b => eqP a.p b.p = false) ∧ L.length = R.length ∧ Below w.heap.size w w' := by
  have c := h.c
  have H : Hid (TabAt w t M D R ∧ R.length ≤ 256) := ⟨h, hl⟩
  have HQ : Hid SortsK := hQ
  obtain ⟨i0, z0, hi, hz0, hz1, hz2, hz3⟩ := Tryd.infoR
  have HI : Hid (Tryd.prog.info? 29 = some i0 ∧ i0.zero = some z0 ∧ i0.size = 36 ∧ i0.bytes ≤ 1000) := ⟨hi, hz0, hz1, hz3⟩
  have HB2 : Hid (i0.bytes * Maps.size D ≤ 281474976710656 ∧ Maps.size D ≤ maxLen) := ⟨Nat.le_trans (Nat.mul_le_mul hz3 (by rw [h.sz]; exact hl)) (by decide), by rw [h.sz]; unfold maxLen; omega⟩
  clear h hl hQ hi hz0 hz1 hz2 hz3
  go_enter Tryd.func20, Tryd.ntmps20
  go_wp2_with (first | (at_len; refine wpList_len_own _ rfl (.tmp 9) 48 rfl 27 29 Tryd.underlying48 anyE M R.length D rfl H.out.1.mo ?_) | (refine wpList_make_own _ rfl _ (.tmp 10) 22 rfl w.heap.size 29 i0 z0 36 Tryd.underlying22 HI.out.1 HI.out.2.1 HI.out.2.2.1 .i64 .i64 (Maps.size D : Nat) (Maps.size D) rfl rfl rfl HB2.out.1 HB2.out.2 (Nat.le_refl _) ?_))
  intro w1 ho1 hg1
  have b1 : Below w.heap.size w w1 := ⟨hg1.os, hg1.tape, hg1.output, hg1.size, fun k hk => hg1.block k hk (by simp)⟩
  have H1 : Hid (TabAt w1 t M D R ∧ RL w1 w.heap.size (.slice (some ⟨w.heap.size, 0, none⟩) 0 (Maps.size D)) [] ∧ Below w.heap.size w w1) := ⟨H.out.1.below b1, ho1, b1⟩
  have c1 := H1.out.1.c
  clear ho1 hg1 b1 c
  go_wp2_with (first | (refine wpList_range_own _ rfl (.tmp 15) 48 rfl 27 29 lawR Tryd.underlying48 anyE M R.length D rfl H1.out.1.mo ?_))
  intro w2 hrg2 hg2 hs2
  have b2 : Below w1.heap.size w1 w2 := ⟨hg2.os, hg2.tape, hg2.output, hg2.size, fun k hk => hg2.block k hk (by simp)⟩
  obtain ⟨r, hr⟩ : ∃ r, r = w1.heap.size := ⟨_, rfl⟩
  rw [← hr] at hrg2 ⊢
  have HC0 : Hid (CL w t M D R r (.slice (some ⟨w.heap.size, 0, none⟩) 0 (Maps.size D)) [] (Maps.has D) (Maps.size D) w2) := by
    have hlt := H.out.1.lt
    have hsz := H1.out.2.2.size
    refine ⟨hrg2, H1.out.1.below b2, H1.out.2.1.below b2, fun g hg => ?_, by omega, hlt, (fun s hs => by cases hs), List.Pairwise.nil, fun s hs kl hk hf => ?_, (fun s hs => by cases hs), fun _ h => h, bthen H1.out.2.2 b2, ⟨_, rfl⟩⟩
    · have := (H1.out.2.1.cells g hg).2.1
      omega
    · rw [(H.out.1.hs s.p kl hk).1, fnd_mem H.out.1.dj hs (eqP_refl _)] at hf
      cases hf
  clear hrg2 hg2 hs2 b2 hr c1 H1
  go_wp2_with fail
  go_loopw [3] (fun l wr => ∃ (v : Value) (L : List RV) (left : Lit → Bool) (cnt : Nat), v = l ∧ Hid (CL w t M D R r v L left cnt wr)) (fun _ wr => wr.rangeLeft M r)
  case atStart => exact ⟨_, _, _, _, rfl, HC0⟩
  case round =>
    obtain ⟨v, L, left, cnt, rfl, HC⟩ := hrel
    clear HC0
    go_wp2_with (first | (refine wpList_next_ranges (α := Value) (β := Value) _ rfl (.tmp 16) rfl 27 lawR anyE id id (fun k _ _ => ⟨k, rfl⟩) (fun v _ _ => ⟨v, rfl⟩) M r R.length D left cnt rfl HC.out.rg ?_ ?_))
    · intro hc0 hl0
      have hL : ∀ s ∈ R, s ∈ L := fun s hs => by
        obtain ⟨kl, hk⟩ := kv_key s.p (H.out.1.wf s hs)
        exact HC.out.come s hs kl hk (hl0 kl)
      have hlen : L.length = R.length := Nat.le_antisymm (len_sub HC.out.dj HC.out.sub) (len_sub H.out.1.dj hL)
      have HL0 : Hid ((∀ s, s ∈ L ↔ s ∈ R) ∧ L.length = R.length) := ⟨fun s => ⟨HC.out.sub s, hL s⟩, hlen⟩
      obtain ⟨g, gc, hvf⟩ := HC.out.form
      have QS : Hid _ := HQ.out wr w.heap.size v L HC.out.li ⟨g, gc, hvf⟩ (by rw [hlen]; exact H.out.2)
      clear hc0 hl0 hL hlen
      subst hvf
      go_wp2_with fail
      refine Calls.mono QS.out ?_
      rintro e w9 ⟨rfl, L', hp, hso, hRL, kk⟩
      have HE : Hid (RL w9 w.heap.size (.slice (some ⟨g, 0, none⟩) L.length gc) L' ∧ (∀ s, s ∈ L' ↔ s ∈ R) ∧ L'.Pairwise (fun a b => 0 ≤ ordV b a) ∧ L'.Pairwise (fun a b => eqP a.p b.p = false) ∧ L'.length = R.length ∧ Below w.heap.size w w9) :=
        ⟨hRL, fun s => (hp.mem_iff).trans (HL0.out.1 s), hso, (hp.pairwise_iff (fun {a b} h => by rw [eqP_comm]; exact h)).2 HC.out.dj, hp.length_eq.trans HL0.out.2, HC.out.bel.trans (kk.below (fun q e => (HC.out.li.cells q e).1) HC.out.bel.size)⟩
      clear hp hso hRL kk QS
      go_wp2_with fail
      go_ret
      exact ⟨_, rfl, L', HE.out⟩
    · intro key cv kl yd yp w3 cnt3 hkey hleft hR hat hrg3 hlt3 hg3 hs3 hen
      obtain ⟨s, hcv, hsR, hks, hnL, hrg, htab, hli, hbel⟩ := HC.out.next (y := (yd, yp)) hleft hR hat hrg3 hg3
      have hcv' : cv = .agg (rtC s) := hcv
      subst hcv'
      have HLL : Hid (L.length ≤ 100000) := by have := len_sub HC.out.dj HC.out.sub; have := H.out.2; show L.length ≤ 100000; omega
      have HN : Hid (left kl = true ∧ s ∈ R ∧ keyOf Tryd.prog 27 (.agg (pfC s.p)) = some kl ∧ s ∉ L ∧ w3.ranges Tryd.prog 27 anyE M r R.length D (fun z => left z && !z.sameKey kl) cnt3 ∧ TabAt w3 t M D R ∧ RL w3 w.heap.size v L ∧ Below w.heap.size w w3 ∧ cnt3 < cnt) := ⟨hleft, hsR, hks, hnL, hrg, htab, hli, hbel, hlt3⟩
      obtain ⟨g, gc, hvf⟩ := HC.out.form
      subst hvf
      clear hcv hsR hks hnL hrg htab hli hbel hlt3 hkey hleft hR hat hrg3 hg3 hs3
      (try simp only [id] at hen ⊢)
      go_wp2_with (first | (refine wpList_alloc_rte rfl rfl ?_) | (refine wpList_store_rte (.tmp 5) (.tmp 20) rfl rfl w3.heap.size rz s rfl rfl (rte_new w3 rz) rfl ?_))
      intro w4 hR4 k4
      have bz : Below w3.heap.size w3 (w3.alloc (.cells (rtC rz) 29)) := (Below.refl _ _).alloc (Nat.le_refl _) _
      have b4 : Below w3.heap.size w3 w4 := bz.trans (k4.below (fun q e => by have e' : q = w3.heap.size := e; omega) bz.size)
      have HR4 : Hid (RteAt w4 w3.heap.size s ∧ Below w3.heap.size w3 w4) := ⟨hR4, b4⟩
      have b5 : Below w3.heap.size w3 (w4.alloc (.cells (rtC s) 29)) := bthen b4 ((Below.refl _ _).alloc (Nat.le_refl _) _)
      have HN5 : Hid ((w4.alloc (.cells (rtC s) 29)).ranges Tryd.prog 27 anyE M r R.length D (fun z => left z && !z.sameKey kl) cnt3 ∧ TabAt (w4.alloc (.cells (rtC s) 29)) t M D R ∧ RL (w4.alloc (.cells (rtC s) 29)) w.heap.size (.slice (some ⟨g, 0, none⟩) L.length gc) L ∧ Below w.heap.size w (w4.alloc (.cells (rtC s) 29))) := by
        have hN := HN.out
        exact ⟨hN.2.2.2.2.1.kept (row := none) ⟨b5.os, b5.tape, b5.output, b5.size, fun k hk _ => b5.block k hk⟩ (by simp) (by simp), hN.2.2.2.2.2.1.below b5, hN.2.2.2.2.2.2.1.below b5, bthen hN.2.2.2.2.2.2.2.1 b5⟩
      clear hR4 k4 bz b4 b5 hen
      go_wp2_with (first | (refine wpList_load_rte (.tmp 5) rfl w3.heap.size s rfl HR4.out.1 rfl ?_) | (refine wpList_bs1 (.tmp 22) rfl s rfl rfl ?_) | (refine wpList_app1 rfl (.tmp 21) (.tmp 23) rfl w.heap.size (.slice (some ⟨g, 0, none⟩) L.length gc) L rfl HN5.out.2.2.1 w4.heap.size s rfl (rte_new w4 s) HLL.out HN5.out.2.2.2.size ?_))
      intro v' w6 hl6 hg6 hv6
      have HC6 : Hid (CL w t M D R r v' (L ++ [s]) (fun z => left z && !z.sameKey kl) cnt3 w6) := HC.out.put HN.out.1 HN.out.2.1 HN.out.2.2.1 HN.out.2.2.2.1 HN5.out.1 HN5.out.2.1 HN5.out.2.2.1 HN5.out.2.2.2 hg6 hl6 (by rw [World.size_alloc]; exact hv6)
      clear hl6 hg6 hv6
      go_wp2_with fail
      go_roundw
      case rel => exact ⟨_, _, _, _, rfl, HC6⟩
      case measure => rw [HC6.out.rg.left_eq, HC.out.rg.left_eq]; exact HN.out.2.2.2.2.2.2.2.2
end Go.Proofs.YtdjbfhllialinaaDoor
