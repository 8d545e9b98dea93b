/-
  lay, lies: a piece in a buffer, marks behind it.
-/
import Derived.Test.YtfahfbpobmpccaaHFill
import Derived.Test.YtfahfbpobmpccaaHBytes
import Derived.Test.YtfahfbpobmpccaaKWa
namespace Go.Proofs.Ytfahfbpobmpccaa
open Go.RowKit Go.Maps
namespace H11
/-- copy into a block that stands already -/
theorem wpList_copy_chW {P : Program} {w : World} {ops : Array Oper} {rest : List Oper} {o : Oper} {a : Act} {Q : Exit → Act → World → Prop} (hgd : o.guard = none) (d s : Operand) (dT sT : TypeId)
    (ho : o.op = .call { callee := .builtin .copy, args := #[d, s], argTypes := #[dT, sT] }) (elem : TypeId) (hu : P.underlying dT = some (.slice elem)) (hsz : (P.info? elem).map (·.size) = some 1)
    (dp sp : Option Addr) (dLen dCap sLen sCap : Nat) (hd : a.eval d = .slice dp dLen dCap) (hs : a.eval s = .slice sp sLen sCap)
    (g off : Nat) (cur : List Value) (t : TypeId) (hg : w.heap[g]? = some (.cells cur.toArray t (0, 0))) (cs : List Value) (hn : cs.length = Nat.min sLen dLen)
    (hpos : 0 < cs.length → dp = some ⟨g, off, none⟩ ∧ ∃ ad, sp = some ad ∧ ∀ j v, cs[j]? = some v → w.cell? (ad.add j) = some v)
    (hfit : off + cs.length ≤ cur.length) (h1 : ∀ v ∈ cs, v.oneCell' = true)
    (h : ∀ w', Hid (w'.heap[g]? = some (.cells (splice cur off cs).toArray t (0, 0)) ∧ Ch (fun q => q = g) w w') → wpList P ops Q rest (a.put o.dst (goInt cs.length)) w') :
    wpList P ops Q (o :: rest) a w := by
  by_cases h0 : cs.length = 0
  · obtain rfl : cs = [] := List.eq_nil_of_length_eq_zero h0
    refine wpList_copy_nothing hgd d s dT sT ho elem hu hsz dp sp dLen dCap sLen sCap hd hs (by simpa using hn.symm) ?_
    exact h w ⟨by simpa [splice] using hg, Ch.refl _ _⟩
  · obtain ⟨rfl, ad, rfl, hsrc⟩ := hpos (by omega)
    refine wpList_copy_own hgd d s dT sT ho elem hu hsz g off dLen dCap ad sLen sCap hd hs cur.toArray t hg cs hn hsrc (by simpa using hfit) h1 ?_
    exact h _ ⟨by simpa [splice] using setRow_heap w g _ _ t _ hg, rfl, rfl, rfl, by simp [World.setRow], fun k _ hk => setRow_other w g k _ hk⟩
theorem seg_cellsW {w : World} {a : Option Addr} {l : List Nat} (h : Seg .u8 w a (toI l)) (h0 : 0 < ((toI l).map (Value.int .u8)).length) : ∃ ad, a = some ad ∧ ∀ j v, ((toI l).map (Value.int .u8))[j]? = some v → w.cell? (ad.add j) = some v := by
  rcases h with hnil | ⟨b, off, rfl, hc⟩
  · rw [hnil] at h0; simp at h0
  · refine ⟨_, rfl, fun j v hj => ?_⟩
    have hj' : j < (toI l).length := by simpa using (List.getElem?_eq_some_iff.1 hj).1
    rw [Addr.add_lit, hc j hj']
    simp [List.getElem?_eq_getElem hj'] at hj
    rw [← hj]
    simp [List.getD, hj']
theorem Try.sizeU8 : (Try.prog.info? 5).map (·.size) = some 1 := by kernel_rfl
def mkL (j : Nat) : Nat := ((203 - 5 * (j : Int)) % 256).toNat
def layL (d l : List Nat) (i N : Nat) : List Nat := (List.range N).map (fun j => if j < d.length then d.getD j 0 else if j < i then mkL j else l.getD j 0)
theorem layL_len (d l : List Nat) (i N : Nat) : (layL d l i N).length = N := by simp [layL]
theorem layL_get (d l : List Nat) (i N j : Nat) (h : j < N) : (layL d l i N)[j]? = some (if j < d.length then d.getD j 0 else if j < i then mkL j else l.getD j 0) := by simp [layL, h]
theorem layL_zero (d l : List Nat) (N : Nat) (hl : l.length = N) (hd : d.length ≤ N) : splice ((toI l).map (Value.int .u8)) 0 ((toI d).map (Value.int .u8)) = (toI (layL d l d.length N)).map (Value.int .u8) := by
  apply List.ext_getElem?
  intro j
  have e1 : splice ((toI l).map (Value.int .u8)) 0 ((toI d).map (Value.int .u8)) = (toI d).map (Value.int .u8) ++ ((toI l).map (Value.int .u8)).drop d.length := by simp [splice, toI]
  rw [e1]
  unfold toI
  by_cases h : j < N
  · rw [List.getElem?_map, List.getElem?_map, layL_get _ _ _ _ _ h]
    by_cases c : j < d.length
    · rw [List.getElem?_append_left (by simpa using c), if_pos c]
      simp [List.getD, c]
    · rw [List.getElem?_append_right (by simp; omega), if_neg c, if_neg c]
      simp only [List.length_map, List.getElem?_drop, List.getElem?_map]
      rw [show d.length + (j - d.length) = j by omega, List.getElem?_eq_getElem (by omega)]
      simp [List.getD, show j < l.length by omega]
  · rw [List.getElem?_eq_none (by simp; omega), List.getElem?_eq_none (by simp [layL_len]; omega)]
theorem layL_next (d l : List Nat) (i N : Nat) (h : d.length ≤ i) : (layL d l i N).set i (mkL i) = layL d l (i + 1) N := by
  refine map_range_set _ _ _ _ _ ?_ (fun k _ e => ?_)
  · rw [if_neg (by omega), if_pos (by omega)]
  · by_cases c : k < d.length
    · rw [if_pos c, if_pos c]
    · rw [if_neg c, if_neg c]
      have : k < i ↔ k < i + 1 := by omega
      simp only [this]
def BfAt (w : World) (BF : Nat) (l : List Nat) : Prop := w.heap[BF]? = some (.cells ((toI l).map (Value.int .u8)).toArray 5 (0, 0))
theorem BfAt.lt {w : World} {BF : Nat} {l : List Nat} (h : BfAt w BF l) : BF < w.heap.size := (Array.getElem?_eq_some_iff.1 h).1
theorem BfAt.ch {w w' : World} {BF : Nat} {l : List Nat} (h : BfAt w BF l) {S : Nat → Prop} (k : Ch S w w') (hS : ¬ S BF) : BfAt w' BF l := (k.block BF h.lt hS).trans h
theorem BfAt.cell {w : World} {BF : Nat} {l : List Nat} (h : BfAt w BF l) (i : Nat) (x : Nat) (hx : l[i]? = some x) : w.cell? ⟨BF, i, none⟩ = some (.int .u8 (x : Int)) := by
  unfold BfAt at h
  simp [World.cell?, h, toI, hx]
theorem BfAt.fz {w : World} {BF : Nat} {l : List Nat} (h : BfAt w BF l) (j : Nat) : w.frozen? ⟨BF, j, none⟩ = false := by unfold BfAt at h; simp [World.frozen?, h]
theorem BfAt.set {w : World} {BF : Nat} {l : List Nat} (h : BfAt w BF l) (i x : Nat) : BfAt (w.setCell ⟨BF, i, none⟩ (.int .u8 (x : Int))) BF (l.set i x) := by
  have h1 := heap_setCell_same w BF i _ _ (.int .u8 (x : Int)) h
  unfold BfAt
  rw [h1]
  unfold toI
  rw [List.map_set, List.map_set, List.setIfInBounds_toArray]
theorem BfAt.seg {w : World} {BF N : Nat} {d l : List Nat} {i : Nat} (h : BfAt w BF (layL d l i N)) (hd : d.length ≤ N) : Seg .u8 w (some ⟨BF, 0, none⟩) (toI d) := by
  refine .inr ⟨BF, 0, rfl, fun j hj => ?_⟩
  rw [toI_len] at hj
  have := h.cell j (d.getD j 0) (by rw [layL_get _ _ _ _ _ (by omega), if_pos hj])
  rw [Nat.zero_add, this, toI_getD]
set_option maxRecDepth 100000 in
set_option maxHeartbeats 3200000 in
theorem lay_any (w : World) (BF N : Nat) (l : List Nat) (hb : BfAt w BF l) (hl : l.length = N) (hN : N ≤ 10000) (d : List Nat) (da : Option Addr) (n c : Nat) (hn : d.length = n) (hnN : n ≤ N) (hs : Seg .u8 w da (toI d)) :
    Calls Try.prog 25 #[.slice (some ⟨BF, 0, none⟩) N N, .slice da n c] w fun r w' => r = .returned (.slice (some ⟨BF, 0, none⟩) n N) ∧ BfAt w' BF (layL d l N N) ∧ Ch (fun q => q = BF) w w' := by
  have hcl : ((toI d).map (Value.int .u8)).length = Nat.min n N := by rw [List.length_map, toI_len, hn]; exact (Nat.min_eq_left hnN).symm
  have hpos := seg_cellsW hs
  have hfit : 0 + ((toI d).map (Value.int .u8)).length ≤ ((toI l).map (Value.int .u8)).length := by rw [List.length_map, List.length_map, toI_len, toI_len, hl, hn]; omega
  have H0 : Hid (∀ w1 : World, w1.heap[BF]? = some (.cells (splice ((toI l).map (Value.int .u8)) 0 ((toI d).map (Value.int .u8))).toArray 5 (0, 0)) → BfAt w1 BF (layL d l n N)) := by
    intro w1 h1
    rw [layL_zero d l N hl (by omega), hn] at h1
    exact h1
  have HDN : Hid (d.length = n) := hn
  have hgo : goInt ((toI d).map (Value.int .u8)).length = .int .i64 (n : Int) := by rw [List.length_map, toI_len, hn]; rfl
  have hb' : w.heap[BF]? = some (.cells ((toI l).map (Value.int .u8)).toArray 5 (0, 0)) := hb
  clear hb hl hs hn
  go_enter Try.func25, Try.ntmps25
  go_wp2_with (first | (refine wpList_copy_chW rfl (.tmp 6) (.tmp 7) 22 22 rfl 5 Try.underlying22 Try.sizeU8 _ _ _ _ _ _ rfl rfl BF 0 _ 5 hb' ((toI d).map (Value.int .u8)) hcl (fun q => ⟨rfl, hpos q⟩) hfit (by intro v hv; obtain ⟨y, _, rfl⟩ := List.mem_map.1 hv; rfl) ?_))
  intro w1 hw
  have H1 : Hid (BfAt w1 BF (layL d l n N) ∧ Ch (fun q => q = BF) w w1) := ⟨H0.out w1 hw.out.1, hw.out.2⟩
  (try rw [hgo])
  clear hw H0 hgo hb' hpos hfit hcl
  go_wp2
  go_loopw [5] (fun ix wr => ∃ i : Nat, (n ≤ i ∧ i ≤ N) ∧ ix = .int .i64 (i : Int) ∧ Hid (BfAt wr BF (layL d l i N) ∧ Ch (fun q => q = BF) w wr)) (fun ix _ => N - (intOf ix).toNat)
  case atStart => exact ⟨n, ⟨Nat.le_refl _, hnN⟩, rfl, H1⟩
  case round =>
    obtain ⟨i, hi, rfl, HI⟩ := hrel
    clear H1
    by_cases hge : N ≤ i
    · obtain rfl : i = N := by omega
      have d0 : ¬ (i : Int) < (i : Int) := by omega
      clear hge
      go_wp2
      go_ret
      exact ⟨rfl, HI.out⟩
    · have d0 : (i : Int) < (N : Int) := by omega
      have hiN : i < N := by omega
      have fz := HI.out.1.fz i
      have cc := HI.out.1.cell i _ (layL_get d l i N i hiN)
      obtain ⟨m, hm⟩ : ∃ m, m = mkL i := ⟨_, rfl⟩
      have w1 : IntKind.i64.wrap (5 * (i : Int)) = 5 * (i : Int) := by rw [IntKind.wrap_i64]; omega
      have w2 : IntKind.i64.wrap (203 - 5 * (i : Int)) = 203 - 5 * (i : Int) := by rw [IntKind.wrap_i64]; omega
      have w3 : IntKind.u8.wrap (203 - 5 * (i : Int)) = (m : Int) := by rw [IntKind.wrap_u8, hm]; unfold mkL; omega
      have HS : Hid (BfAt (wr.setCell ⟨BF, i, none⟩ (.int .u8 (m : Int))) BF (layL d l (i + 1) N) ∧ Ch (fun q => q = BF) w (wr.setCell ⟨BF, i, none⟩ (.int .u8 (m : Int)))) := by
        refine ⟨?_, HI.out.2.set _ _ rfl⟩
        have := HI.out.1.set i m
        rw [hm, layL_next d l i N (by rw [HDN.out]; exact hi.1)] at this
        rw [hm]
        exact this
      clear hm hge HI
      go_wp2
      go_roundw
      case rel => exact ⟨i + 1, ⟨by omega, hiN⟩, by go_num, HS⟩
      case measure => simp [intOf]; omega
set_option maxRecDepth 100000 in
set_option maxHeartbeats 3200000 in
theorem lies_any (w : World) (BF N : Nat) (l : List Nat) (d : List Nat) (hb : BfAt w BF (layL d l N N)) (hN : N ≤ 10000) (da : Option Addr) (n c : Nat) (hn : d.length = n) (hnN : n ≤ N) (hs : Seg .u8 w da (toI d)) :
    Calls Try.prog 27 #[.slice (some ⟨BF, 0, none⟩) N N, .slice da n c] w fun r w' => r = .returned (.bool true) ∧ Below w.heap.size w w' := by
  have QS : Hid (Calls Try.prog 16 #[.slice (some ⟨BF, 0, none⟩) n N, .slice da n c] w fun r w' => r = .returned (.bool true) ∧ Below w.heap.size w w') := by
    have := same_any (some ⟨BF, 0, none⟩) da n n N c d d w hn hn (hb.seg (by omega)) hs (by omega)
    rw [decide_eq_true rfl] at this
    exact this
  have HB : Hid (BfAt w BF (layL d l N N)) := hb
  have HDN : Hid (d.length = n) := hn
  clear hb hs hn
  go_enter Try.func27, Try.ntmps27
  go_wp2_with fail
  refine Calls.mono QS.out ?_
  rintro e w1 ⟨rfl, hb1⟩
  have H1 : Hid (Below w.heap.size w w1) := hb1
  clear hb1 QS
  go_wp2
  go_loopw [5] (fun ix wr => ∃ i : Nat, (n ≤ i ∧ i ≤ N) ∧ ix = .int .i64 (i : Int) ∧ Hid (Below w.heap.size w wr)) (fun ix _ => N - (intOf ix).toNat)
  case atStart => exact ⟨n, ⟨Nat.le_refl _, hnN⟩, rfl, H1⟩
  case round =>
    obtain ⟨i, hi, rfl, HI⟩ := hrel
    clear H1
    by_cases hge : N ≤ i
    · obtain rfl : i = N := by omega
      have d0 : ¬ (i : Int) < (i : Int) := by omega
      clear hge
      go_wp2
      go_ret
      exact ⟨rfl, HI.out⟩
    · have d0 : (i : Int) < (N : Int) := by omega
      have hiN : i < N := by omega
      obtain ⟨m, hm⟩ : ∃ m, m = mkL i := ⟨_, rfl⟩
      have cc : wr.cell? ⟨BF, i, none⟩ = some (.int .u8 (m : Int)) := by
        have h1 := HB.out.cell i m (by rw [layL_get _ _ _ _ _ hiN, if_neg (by rw [HDN.out]; omega), if_pos hiN, hm])
        exact (World.cell?_of_block (HI.out.block BF HB.out.lt)).trans h1
      have w1 : IntKind.i64.wrap (5 * (i : Int)) = 5 * (i : Int) := by rw [IntKind.wrap_i64]; omega
      have w2 : IntKind.i64.wrap (203 - 5 * (i : Int)) = 203 - 5 * (i : Int) := by rw [IntKind.wrap_i64]; omega
      have w3 : IntKind.u8.wrap (203 - 5 * (i : Int)) = (m : Int) := by rw [IntKind.wrap_u8, hm]; unfold mkL; omega
      have w4 : ((m : Int) != (m : Int)) = false := by simp
      clear hm hge
      go_wp2
      go_roundw
      case rel => exact ⟨i + 1, ⟨by omega, hiN⟩, by go_num, HI⟩
      case measure => simp [intOf]; omega
end H11
end Go.Proofs.Ytfahfbpobmpccaa
