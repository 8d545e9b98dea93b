/-
  The walk of ViewShares.
-/
import Derived.Test.YthfhagcbakihjaaTotal
import Derived.Test.YthfhagcbakihjaaJoin
import Derived.Test.YthfhagcbakihjaaRoomyB
import Derived.Test.YthfhagcbakihjaaCursor
import Derived.Test.YthfhagcbakihjaaAppendFull
import Derived.Test.YthfhagcbakihjaaMix
namespace Go.Proofs.Ythfhagcbakihjaa.viewShares
open Go.RowKit

theorem own_below {A B : World} {base : Nat} {e : TypeId} {v : Value} {m : Nat} {xs : List Value} (h : A.ownsRow base e 1 v m xs) (hB : Below A.heap.size A B) : B.ownsRow base e 1 v m xs :=
  h.kept (grown_below hB none) (by cases hv : v.ownBlock <;> simp)
theorem owns_at {w : World} {base : Nat} {e : TypeId} {g : Option Addr} {n c : Nat} {k : IntKind} {zs : List Int} (h : w.ownsRow base e 1 (.slice g n c) n (zs.map (Value.int k))) : Seg k w g zs := by
  obtain ⟨a, c', e1, hs, _⟩ := owns_seg h
  simp only [Value.slice.injEq, true_and] at e1
  rw [e1.1]
  exact hs
/-- the row has one element at least: so it has a block -/
theorem owns_block {w : World} {base : Nat} {e : TypeId} {v : Value} {n : Nat} {xs : List Value} (h : w.ownsRow base e 1 v n xs) (hn : 0 < n) : ∃ g c, v = .slice (some ⟨g, 0, none⟩) n c ∧ base ≤ g ∧ g < w.heap.size ∧ n ≤ c ∧ c ≤ maxLen := by
  rcases h.2 with ⟨_, h0⟩ | ⟨g, cap, cur, rfl, hb, hg, hnc, hcm, _⟩
  · omega
  · exact ⟨g, cap, rfl, hb, (h.lt g rfl).2, hnc, hcm⟩

/-- what stands in the roomy row all the time: bytes, and the marks behind -/
structure Good (L : Nat) (cs : List Nat) : Prop where
  len : cs.length = L + 75
  byte : ∀ x ∈ cs, x < 256
  back : cs.drop L = marks 75
theorem Good.set {L : Nat} {cs : List Nat} (h : Good L cs) {j x : Nat} (hj : j < L) (hx : x < 256) : Good L (cs.set j x) := by
  refine ⟨by rw [List.length_set]; exact h.len, fun y hy => ?_, by rw [List.drop_set_of_lt hj]; exact h.back⟩
  rcases List.mem_or_eq_of_mem_set hy with h1 | h1
  · exact h.byte y h1
  · omega
theorem toI_set (cs : List Nat) (j x : Nat) : ((toI cs).map (Value.int .u8)).set j (.int .u8 (x : Int)) = (toI (cs.set j x)).map (Value.int .u8) := by
  simp [toI, List.map_set]
theorem getD_set_same (cs : List Nat) (j x : Nat) (h : j < cs.length) : (cs.set j x).getD j 0 = x := by simp [List.getD, h]
theorem getD_set_ne (cs : List Nat) (i j x : Nat) (h : j ≠ i) : (cs.set j x).getD i 0 = cs.getD i 0 := by simp [List.getD, List.getElem?_set_ne h]
/-- the row in the block g -/
def Row (W : World) (base g L c : Nat) (cs : List Nat) : Prop := W.ownsRow base 5 1 (.slice (some ⟨g, 0, none⟩) (L + 75) c) (L + 75) ((toI cs).map (Value.int .u8))
theorem Row.cell {W : World} {base g L c : Nat} {cs : List Nat} (h : Row W base g L c cs) (hg : Good L cs) {j : Nat} (hj : j < L + 75) : W.cell? ⟨g, j, none⟩ = some (.int .u8 (cs.getD j 0 : Nat)) := by
  have := World.ownsRow.cellAt h j (by omega)
  rw [this]
  have hl := hg.len
  simp [toI, List.getD, show j < cs.length by omega]
theorem Row.set {W : World} {base g L c : Nat} {cs : List Nat} (h : Row W base g L c cs) (j x : Nat) : Row (W.setCell ⟨g, j, none⟩ (.int .u8 (x : Int))) base g L c (cs.set j x) := by
  have := (World.ownsRow.stored h j (.int .u8 (x : Int))).1
  rw [toI_set] at this
  exact this
theorem cut_addr (g an nn : Nat) : ∃ wa : Addr, cutA (some ⟨g, 0, none⟩) an nn = some wa ∧ (0 < nn → wa = ⟨g, an, none⟩) := by
  unfold cutA
  by_cases h : nn = 0
  · exact ⟨⟨g, 0, none⟩, by rw [if_pos h], fun h1 => by omega⟩
  · exact ⟨⟨g, an, none⟩, by simp [h, Addr.add]; intro e; exact e.symm, fun _ => rfl⟩
theorem cut_all (g L : Nat) : cutA (some ⟨g, 0, none⟩) 0 L = some ⟨g, 0, none⟩ := by
  unfold cutA
  split
  · rfl
  · simp [Addr.add]

theorem news_alloc (w : World) (vs : List Value) (t : TypeId) : ∀ j u, vs[j]? = some u → (w.alloc (.cells vs.toArray t)).cell? ((⟨w.heap.size, 0, none⟩ : Addr).add j) = some u := by
  intro j u hu
  rw [Addr.add_lit, Nat.zero_add, World.cell?_alloc_at _ _ _ _ rfl]
  simpa using hu
theorem Row.seg {W : World} {base g L c : Nat} {cs : List Nat} (h : Row W base g L c cs) : Seg .u8 W (some ⟨g, 0, none⟩) (toI cs) := owns_at h
theorem Row.win {W : World} {base g L c : Nat} {cs : List Nat} (h : Row W base g L c cs) (hg : Good L cs) {an nn : Nat} {wa : Addr} (hin : an + nn ≤ L + 75) (hwa : cutA (some ⟨g, 0, none⟩) an nn = some wa) :
    Seg .u8 W (some wa) (toI ((cs.drop an).take nn)) ∧ (toI ((cs.drop an).take nn)).length = nn := by
  have hl := hg.len
  refine ⟨?_, by rw [toI_len]; simp; omega⟩
  have := h.seg.cut an nn (by rw [toI_len]; omega)
  rw [hwa, toI_drop, toI_take] at this
  exact this
theorem Row.below {A B : World} {base g L c : Nat} {cs : List Nat} (h : Row A base g L c cs) (hB : Below A.heap.size A B) : Row B base g L c cs := own_below h hB

theorem cut_back (g n : Nat) : cutA (some ⟨g, 0, none⟩) n 75 = some ⟨g, n, none⟩ := by
  unfold cutA
  rw [if_neg (by decide), Option.map_some, Addr.add_lit, Nat.zero_add]
theorem roomy_nil (W : World) : Calls Try.prog 9 #[.slice none 0 0] W fun e w' => ∃ g c, e = .returned (.slice (some ⟨g, 0, none⟩) 75 c) ∧ w'.ownsRow W.heap.size 5 1 (.slice (some ⟨g, 0, none⟩) 75 c) 75 ((toI (marks 75)).map (Value.int .u8)) ∧ Below W.heap.size W w' := by
  refine (roomy_any none 0 0 [] W rfl (.inl rfl) (by decide)).mono ?_
  rintro e w' ⟨v, rfl, ho, hb⟩
  have ho' : w'.ownsRow W.heap.size 5 1 v 75 ((toI (marks 75)).map (Value.int .u8)) := ho
  obtain ⟨g, c, rfl, _⟩ := owns_block ho' (by decide)
  exact ⟨g, c, rfl, ho', hb⟩
theorem same_back (g off m c1 g2 c2 : Nat) (W : World) (hm : m = 75) (h1 : Seg .u8 W (some ⟨g, off, none⟩) (toI (marks 75))) (h2 : Seg .u8 W (some ⟨g2, 0, none⟩) (toI (marks 75))) :
    Calls Try.prog 14 #[.slice (some ⟨g, off, none⟩) m c1, .slice (some ⟨g2, 0, none⟩) 75 c2] W fun e w' => e = .returned (.bool true) ∧ W = w' := by
  subst hm
  exact same_true _ _ _ _ 75 (marks 75) W h1 h2 (marks_len 75) (marks_lt 75)

set_option maxRecDepth 100000 in
set_option maxHeartbeats 3200000 in
theorem walk (a0 : Option Addr) (len0 cap0 : Nat) (z0 : List Int) (at' n place lo : Int) (w : World) (w0 : IsRow .u8 w a0 len0 cap0 z0) (w1 : (Lit.int .i64 at').wf = true) (w2 : (Lit.int .i64 n).wf = true) (_w3 : (Lit.int .i64 place).wf = true) (_w4 : (Lit.int .i64 lo).wf = true)
    (n0 : cap0 ≤ 1048576) :
    Calls Try.prog 3 #[.slice a0 len0 cap0, .int .i64 at', .int .i64 n, .int .i64 place, .int .i64 lo] w fun e w' => e = .returned (.bool true) ∧ Below w.heap.size w w' := by
  obtain ⟨bs, rfl, hb, h0, _, hb256⟩ := w0.bytes
  have ha : at' ≤ 9223372036854775807 := by
    simp [Lit.wf, IntKind.min, IntKind.max, IntKind.bits, IntKind.signed] at w1
    omega
  have hn : n ≤ 9223372036854775807 := by
    simp [Lit.wf, IntKind.min, IntKind.max, IntKind.bits, IntKind.signed] at w2
    omega
  clear w0 w1 w2
  go_enter Try.func3, Try.ntmps3
  go_wp2_with fail
  refine (roomy_any a0 bs.length cap0 bs w rfl hb (by omega)).mono ?_
  rintro e w1 ⟨v1, rfl, ho1, hb1⟩
  obtain ⟨g, c, rfl, hg0, hg1, hc1, hc2⟩ := owns_block ho1 (by omega)
  have hcm : c ≤ 9223372036854775807 := by unfold maxLen at hc2; omega
  have hcl : bs.length ≤ c := by omega
  by_cases hok : 0 ≤ n ∧ 0 ≤ at' ∧ at' + n ≤ bs.length
  · obtain ⟨nn, rfl⟩ := Int.eq_ofNat_of_zero_le hok.1
    obtain ⟨an, rfl⟩ := Int.eq_ofNat_of_zero_le hok.2.1
    have hin : an + nn ≤ bs.length := by omega
    clear hok ha hn
    obtain ⟨wa, hwa, hwp⟩ := cut_addr g an nn
    have HWA : Hid (cutA (some ⟨g, 0, none⟩) an nn = some wa) := hwa
    have HWP : Hid (0 < nn → wa = ⟨g, an, none⟩) := hwp
    clear hwa hwp
    go_wp2_with fail
    refine (window_ok (some ⟨g, 0, none⟩) bs.length c an nn w1 hin hcl hcm).mono ?_
    rintro e w2 ⟨rfl, hb2⟩
    rw [HWA.out]
    go_wp2_with fail
    refine (window_ok (some ⟨g, 0, none⟩) bs.length c 0 bs.length w2 (by omega) hcl hcm).mono ?_
    rintro e w3 ⟨rfl, hb3⟩
    rw [cut_all]
    go_wp2_with fail
    refine (num_any 0 w3).mono ?_
    rintro e w4 ⟨rfl, rfl⟩
    go_wp2_with fail
    refine (started_any w3).mono ?_
    rintro e w4 ⟨rfl, hb4⟩
    go_wp2_with fail
    refine (num_any 0 w4).mono ?_
    rintro e w5 ⟨rfl, rfl⟩
    have hb14 : Below w1.heap.size w1 w4 := (hb2.trans (hb3.mono hb2.size)).trans (hb4.mono (Nat.le_trans hb2.size hb3.size))
    have hR4 : Row w4 w.heap.size g bs.length c (bs ++ marks 75) := own_below ho1 hb14
    have hG4 : Good bs.length (bs ++ marks 75) := ⟨by rw [List.length_append, marks_len], fun x hx => by
      rcases List.mem_append.1 hx with h | h
      · exact hb256 x h
      · exact marks_lt 75 x h, List.drop_left⟩
    have hB4 : Below w.heap.size w w4 := hb1.trans (hb14.mono hb1.size)
    clear hb2 hb3 hb4 hb14 ho1
    go_wp2_with fail
    go_loopw [17] (fun ix wr => ∃ (k : Nat) (cs : List Nat), k ≤ nn ∧ ix = .int .i64 k ∧ Row wr w.heap.size g bs.length c cs ∧ Good bs.length cs ∧ (∀ i, i < k → cs.getD (an + i) 0 = 7 + i % 200) ∧ Below w.heap.size w wr) (fun ix _ => nn - (intOf ix).toNat)
    case atStart => exact ⟨0, _, Nat.zero_le _, rfl, hR4, hG4, fun i hi => by omega, hB4⟩
    case round =>
      obtain ⟨k, cs, hk, rfl, hR, hG, hM, hB⟩ := hrel
      clear hR4 hG4 hB4
      by_cases hlt : k < nn
      · obtain rfl : wa = ⟨g, an, none⟩ := HWP.out (by omega)
        have hc := hR.cell hG (j := an + k) (by omega)
        have hf := World.ownsRow.frozenAt hR (an + k)
        have hwr : IntKind.u8.wrap (7 + (k : Int) % 200) = ((7 + k % 200 : Nat) : Int) := by
          rw [IntKind.wrap_u8]
          omega
        have hR' := hR.set (an + k) (7 + k % 200)
        have hG' : Good bs.length (cs.set (an + k) (7 + k % 200)) := hG.set (by omega) (by omega)
        have hM' : ∀ i, i < k + 1 → (cs.set (an + k) (7 + k % 200)).getD (an + i) 0 = 7 + i % 200 := by
          intro i hi
          by_cases e : i = k
          · subst e; exact getD_set_same _ _ _ (by have := hG.len; omega)
          · rw [getD_set_ne _ _ _ _ (by omega)]; exact hM i (by omega)
        have HM' : Hid (∀ i, i < k + 1 → (cs.set (an + k) (7 + k % 200)).getD (an + i) 0 = 7 + i % 200) := hM'
        clear hM' hM
        obtain ⟨old, hold⟩ : ∃ old : Int, old = (cs.getD (an + k) 0 : Nat) := ⟨_, rfl⟩
        rw [← hold] at hc
        clear hold
        go_wp2
        go_roundw
        case rel => exact ⟨k + 1, _, by omega, by go_num, hR', hG', HM'.out, hB.setCell hg0 _⟩
        case measure => simp [intOf]; omega
      · have ekn : nn = k := by omega
        subst ekn
        have HM : Hid (∀ i, i < nn → cs.getD (an + i) 0 = 7 + i % 200) := hM
        clear hM
        go_wp2_with fail
        go_loopw [18] (fun ix wr2 => ∃ k : Nat, k ≤ nn ∧ ix = .int .i64 k ∧ wr = wr2) (fun ix _ => nn - (intOf ix).toNat)
        case atStart => exact ⟨0, Nat.zero_le _, rfl, rfl⟩
        case round =>
          obtain ⟨k, hk2, rfl, rfl⟩ := hrel
          by_cases hlt2 : k < nn
          · have hc : wr.cell? ⟨g, an + k, none⟩ = some (.int .u8 ((7 + k % 200 : Nat) : Int)) := by rw [hR.cell hG (by omega), HM.out k hlt2]
            have hwr : IntKind.u8.wrap (7 + (k : Int) % 200) = ((7 + k % 200 : Nat) : Int) := by
              rw [IntKind.wrap_u8]
              omega
            go_wp2
            go_roundw
            case rel => exact ⟨k + 1, by omega, by go_num, trivial⟩
            case measure => simp [intOf]; omega
          · have ekn : nn = k := by omega
            subst ekn
            clear HM
            obtain ⟨j0, gi, gz0, gz1, gz2⟩ := info_parts Try.infoByte
            have hgw : w.heap.size ≤ g := hg0
            by_cases hp : 0 ≤ place ∧ place < nn
            · obtain ⟨pn, rfl⟩ := Int.eq_ofNat_of_zero_le hp.1
              have hpn : pn < nn := by omega
              clear hp
              obtain rfl : wa = ⟨g, an, none⟩ := HWP.out (by omega)
              have hc := hR.cell hG (j := an + pn) (by omega)
              have hf := World.ownsRow.frozenAt hR (an + pn)
              have hR' := hR.set (an + pn) 6
              have hG' : Good bs.length (cs.set (an + pn) 6) := hG.set (by omega) (by omega)
              have hc6 : (wr.setCell ⟨g, an + pn, none⟩ (.int .u8 6)).cell? ⟨g, an + pn, none⟩ = some (.int .u8 6) := World.cell?_setCell_same _ _ _ hc
              obtain ⟨old, hold⟩ : ∃ old : Int, old = (cs.getD (an + pn) 0 : Nat) := ⟨_, rfl⟩
              rw [← hold] at hc
              clear hold
              have hB' : Below w.heap.size w (wr.setCell ⟨g, an + pn, none⟩ (.int .u8 6)) := hB.setCell hg0 _
              go_wp2_with fail
              clear hc hf hc6 hR hG hB
              obtain ⟨W, hW⟩ : ∃ W, W = wr.setCell ⟨g, an + pn, none⟩ (.int .u8 6) := ⟨_, rfl⟩
              obtain ⟨cs', hcs⟩ : ∃ cs', cs' = cs.set (an + pn) 6 := ⟨_, rfl⟩
              change Row (wr.setCell ⟨g, an + pn, none⟩ (.int .u8 6)) w.heap.size g bs.length c (cs.set (an + pn) 6) at hR'
              rw [← hW] at hR' hB' ⊢
              rw [← hcs] at hR' hG'
              clear hW hcs
              have hlen := hG'.len
              have hgW : g < W.heap.size := (World.ownsRow.lt hR' g rfl).2
              have hJ := join_any (some ⟨g, 0, none⟩) none none c 0 0 cs' [] [] W hR'.seg (.inl rfl) (.inl rfl) (by simp; omega)
              rw [hlen] at hJ
              simp only [List.append_nil, List.length_nil, Nat.add_zero] at hJ
              refine hJ.mono ?_
              rintro e W1 ⟨v2, rfl, ho2, hb2⟩
              obtain ⟨g2, c2, rfl, _, _, _, _⟩ := owns_block ho2 (by omega)
              have hR1 := hR'.below hb2
              obtain ⟨sw1, nw⟩ := hR1.win hG' (show an + nn ≤ bs.length + 75 by omega) HWA.out
              have NW : Hid ((toI ((cs'.drop an).take nn)).length = nn) := nw
              obtain ⟨zw, hzw⟩ : ∃ zw, zw = toI ((cs'.drop an).take nn) := ⟨_, rfl⟩
              rw [← hzw] at sw1 NW
              obtain ⟨sz1, nz⟩ := hR1.win hG' (show 0 + bs.length ≤ bs.length + 75 by omega) (cut_all g bs.length)
              have NZ : Hid ((toI ((cs'.drop 0).take bs.length)).length = bs.length) := nz
              obtain ⟨zz, hzz⟩ : ∃ zz, zz = toI ((cs'.drop 0).take bs.length) := ⟨_, rfl⟩
              rw [← hzz] at sz1 NZ
              have HLEN : Hid (cs'.length = bs.length + 75) := hlen
              clear hzw hzz nw nz hlen hJ
              go_wp2_with (at_builtin; refine wpList_append_full rfl (.tmp 160) (.tmp 161) 22 rfl 5 j0 (.int .u8 0) 1 Try.underlying22 gi gz0 gz1 gz2 rfl .u8 _ nn zw rfl NW.out (sw1.old ((Below.refl _ _).alloc (Nat.le_refl _) _)) ⟨W1.heap.size, 0, none⟩ 1 1 [.int .u8 251] rfl rfl (news_alloc W1 [.int .u8 251] _) (by decide) (by unfold maxLen; omega) (by omega) ?_)
              intro v3 W2 ho3 hg3
              obtain ⟨a3, c3, rfl⟩ := owns_shape ho3
              have hb3 : Below W1.heap.size W1 W2 := ((Below.refl _ _).alloc (Nat.le_refl _) _).grown hg3 (by simp) (by intro k hk; cases hk)
              clear ho3 hg3
              go_wp2_with (at_builtin; refine wpList_append_full rfl (.tmp 163) (.tmp 164) 22 rfl 5 j0 (.int .u8 0) 1 Try.underlying22 gi gz0 gz1 gz2 rfl .u8 _ nn zw rfl NW.out ((sw1.old hb3).old ((Below.refl _ _).alloc (Nat.le_refl _) _)) ⟨W2.heap.size, 0, none⟩ 2 2 [.int .u8 252, .int .u8 252] rfl rfl (news_alloc W2 [.int .u8 252, .int .u8 252] _) (by decide) (by unfold maxLen; omega) (by omega) ?_)
              intro v4 W3 ho4 hg4
              obtain ⟨a4, c4, rfl⟩ := owns_shape ho4
              have hb4 : Below W1.heap.size W1 W3 := hb3.trans ((((Below.refl _ _).alloc (Nat.le_refl _) _).grown hg4 (by simp) (by intro k hk; cases hk)).mono hb3.size)
              clear ho4 hg4 hb3
              go_wp2_with (at_builtin; refine wpList_append_full rfl (.tmp 166) (.tmp 167) 22 rfl 5 j0 (.int .u8 0) 1 Try.underlying22 gi gz0 gz1 gz2 rfl .u8 _ bs.length zz rfl NZ.out ((sz1.old hb4).old ((Below.refl _ _).alloc (Nat.le_refl _) _)) ⟨W3.heap.size, 0, none⟩ 3 3 [.int .u8 253, .int .u8 253, .int .u8 253] rfl rfl (news_alloc W3 [.int .u8 253, .int .u8 253, .int .u8 253] _) (by decide) (by unfold maxLen; omega) (by omega) ?_)
              intro v5 W4 ho5 hg5
              obtain ⟨a5, c5, rfl⟩ := owns_shape ho5
              have hb5 : Below W1.heap.size W1 W4 := hb4.trans ((((Below.refl _ _).alloc (Nat.le_refl _) _).grown hg5 (by simp) (by intro k hk; cases hk)).mono hb4.size)
              clear ho5 hg5 hb4
              have hR4 := hR1.below hb5
              have hgW4 : g < W4.heap.size := (World.ownsRow.lt hR4 g rfl).2
              have hB4 : Below w.heap.size w W4 := (hB'.trans (hb2.mono hB'.size)).trans (hb5.mono (Nat.le_trans hB'.size hb2.size))
              have s2 : Seg .u8 W4 (some ⟨g2, 0, none⟩) (toI cs') := (owns_at ho2).old hb5
              go_wp2_with fail
              refine (same_true (some ⟨g, 0, none⟩) (some ⟨g2, 0, none⟩) _ _ (bs.length + 75) cs' W4 hR4.seg s2 HLEN.out hG'.byte).mono ?_
              rintro e W5 ⟨rfl, rfl⟩
              clear s2 ho2 hb5 hR1 sw1 sz1 hb2 hR' hB'
              go_wp2_with fail
              refine (at_any (some ⟨g, 0, none⟩) bs.length c W4 hcl hcm).mono ?_
              rintro e W5 ⟨rfl, hW5⟩
              rw [cut_all] at hW5
              have hcur : Cur W5 W4.heap.size (some ⟨g, 0, none⟩) bs.length 0 := by rw [hW5]; exact cur_new _ _ _ _
              have hb5 : Below W4.heap.size W4 W5 := by rw [hW5]; exact (Below.refl _ _).alloc (Nat.le_refl _) _
              clear hW5
              have hR5 := hR4.below hb5
              have hB5 : Below w.heap.size w W5 := hB4.trans (hb5.mono hB4.size)
              have hW4s : w.heap.size ≤ W4.heap.size := hB4.size
              clear hR4 hB4 hb5
              by_cases hlo : 0 ≤ lo ∧ lo ≤ bs.length
              · obtain ⟨ln, rfl⟩ := Int.eq_ofNat_of_zero_le hlo.1
                have hll : ln ≤ bs.length := by omega
                clear hlo
                obtain ⟨dn, hd1, hd2⟩ : ∃ dn, ln + dn ≤ bs.length ∧ bs.length ≤ ln + dn := ⟨bs.length - ln, by omega, by omega⟩
                obtain ⟨xa, hxa, hxp⟩ := cut_addr g ln dn
                have HXA : Hid (cutA (some ⟨g, 0, none⟩) ln dn = some xa) := hxa
                have HXP : Hid (0 < dn → xa = ⟨g, ln, none⟩) := hxp
                clear hxa hxp
                go_wp2_with fail
                refine (curSkip_ok W4.heap.size (some ⟨g, 0, none⟩) bs.length 0 ln W5 hcur (by omega) (by omega)).mono ?_
                rintro e W6 ⟨rfl, hcur6, hg6⟩
                rw [Nat.zero_add] at hcur6
                have hR6 : Row W6 w.heap.size g bs.length c cs' := World.ownsRow.kept hR5 hg6 (.inr (by simp [Value.ownBlock]; omega))
                have hB6 : Below w.heap.size w W6 := hB5.grown hg6 hB5.size (by intro k hk; cases hk; exact hW4s)
                clear hR5 hB5 hg6 hcur
                go_wp2_with fail
                rw [show ((bs.length : Int) - (ln : Int)) = (dn : Int) by omega]
                refine (curWindow_ok W4.heap.size (some ⟨g, 0, none⟩) bs.length ln dn W6 hcur6 hd1 (by omega)).mono ?_
                rintro e W7 ⟨rfl, hcur7, hg7⟩
                rw [HXA.out]
                have hR7 : Row W7 w.heap.size g bs.length c cs' := World.ownsRow.kept hR6 hg7 (.inr (by simp [Value.ownBlock]; omega))
                have hB7 : Below w.heap.size w W7 := hB6.grown hg7 hB6.size (by intro k hk; cases hk; exact hW4s)
                clear hR6 hB6 hg7 hcur6 hcur7
                go_wp2_with fail
                refine (num_any 0 W7).mono ?_
                rintro e W8 ⟨rfl, rfl⟩
                go_wp2_with fail
                refine (num_any 0 W7).mono ?_
                rintro e W8 ⟨rfl, rfl⟩
                go_wp2_with fail
                go_loopw [27] (fun ix wr3 => ∃ (k : Nat) (ds : List Nat), k ≤ dn ∧ ix = .int .i64 k ∧ Row wr3 w.heap.size g bs.length c ds ∧ Good bs.length ds ∧ (∀ i, i < k → ds.getD (ln + i) 0 = 5) ∧ Below w.heap.size w wr3) (fun ix _ => dn - (intOf ix).toNat)
                case atStart => exact ⟨0, _, Nat.zero_le _, rfl, hR7, hG', fun i hi => by omega, hB7⟩
                case round =>
                  obtain ⟨k, ds, hk3, rfl, hR3, hG3, hM3, hB3⟩ := hrel
                  clear hR7 hB7 hG'
                  by_cases hlt3 : k < dn
                  · obtain rfl : xa = ⟨g, ln, none⟩ := HXP.out (by omega)
                    have hc := hR3.cell hG3 (j := ln + k) (by omega)
                    have hf := World.ownsRow.frozenAt hR3 (ln + k)
                    have hRn := hR3.set (ln + k) 5
                    have hGn : Good bs.length (ds.set (ln + k) 5) := hG3.set (by omega) (by omega)
                    have hMn : ∀ i, i < k + 1 → (ds.set (ln + k) 5).getD (ln + i) 0 = 5 := by
                      intro i hi
                      by_cases e : i = k
                      · subst e; exact getD_set_same _ _ _ (by have := hG3.len; omega)
                      · rw [getD_set_ne _ _ _ _ (by omega)]; exact hM3 i (by omega)
                    have HMn : Hid (∀ i, i < k + 1 → (ds.set (ln + k) 5).getD (ln + i) 0 = 5) := hMn
                    clear hMn hM3
                    obtain ⟨old, hold⟩ : ∃ old : Int, old = (ds.getD (ln + k) 0 : Nat) := ⟨_, rfl⟩
                    rw [← hold] at hc
                    clear hold
                    go_wp2
                    go_roundw
                    case rel => exact ⟨k + 1, _, by omega, by go_num, hRn, hGn, HMn.out, hB3.setCell hg0 _⟩
                    case measure => simp [intOf]; omega
                  · have ekn : dn = k := by omega
                    subst ekn
                    have HM3 : Hid (∀ i, i < dn → ds.getD (ln + i) 0 = 5) := hM3
                    clear hM3
                    obtain ⟨sx, nx⟩ := hR3.win hG3 (show ln + dn ≤ bs.length + 75 by omega) HXA.out
                    have NX : Hid ((toI ((ds.drop ln).take dn)).length = dn) := nx
                    obtain ⟨zx, hzx⟩ : ∃ zx, zx = toI ((ds.drop ln).take dn) := ⟨_, rfl⟩
                    rw [← hzx] at sx NX
                    clear hzx nx
                    go_wp2_with (at_builtin; refine wpList_append_full rfl (.tmp 249) (.tmp 250) 22 rfl 5 j0 (.int .u8 0) 1 Try.underlying22 gi gz0 gz1 gz2 rfl .u8 _ dn zx rfl NX.out (sx.old ((Below.refl _ _).alloc (Nat.le_refl _) _)) ⟨wr.heap.size, 0, none⟩ 1 1 [.int .u8 254] rfl rfl (news_alloc wr [.int .u8 254] _) (by decide) (by unfold maxLen; omega) (by omega) ?_)
                    intro v9 W9 ho9 hg9
                    obtain ⟨a9, c9, rfl⟩ := owns_shape ho9
                    have hb9 : Below wr.heap.size wr W9 := ((Below.refl _ _).alloc (Nat.le_refl _) _).grown hg9 (by simp) (by intro k hk; cases hk)
                    have hR9 := hR3.below hb9
                    have hB9 : Below w.heap.size w W9 := hB3.trans (hb9.mono hB3.size)
                    clear ho9 hg9 hb9 hR3 hB3 sx
                    go_wp2_with fail
                    go_loopw [29] (fun ix wr4 => ∃ k : Nat, ln ≤ k ∧ k ≤ bs.length ∧ ix = .int .i64 k ∧ W9 = wr4) (fun ix _ => bs.length - (intOf ix).toNat)
                    case atStart => exact ⟨ln, Nat.le_refl _, hll, rfl, rfl⟩
                    case round =>
                      obtain ⟨k, hk4, hk5, rfl, rfl⟩ := hrel
                      by_cases hlt4 : k < bs.length
                      · have hc : W9.cell? ⟨g, k, none⟩ = some (.int .u8 5) := by
                          have e1 := HM3.out (k - ln) (by omega)
                          rw [show ln + (k - ln) = k by omega] at e1
                          rw [hR9.cell hG3 (by omega), e1]
                          rfl
                        go_wp2
                        go_roundw
                        case rel => exact ⟨k + 1, by omega, by omega, by go_num, trivial⟩
                        case measure => simp [intOf]; omega
                      · have ekn : bs.length = k := by omega
                        subst ekn
                        clear HM3
                        go_wp2_with fail
                        have sback : Seg .u8 W9 (some ⟨g, bs.length, none⟩) (toI (marks 75)) := by
                          have h1 := hR9.seg.cut bs.length 75 (by rw [toI_len]; have := hG3.len; omega)
                          rw [toI_drop, hG3.back, toI_take, List.take_of_length_le (by rw [marks_len]; exact Nat.le_refl _)] at h1
                          rwa [cut_back] at h1
                        have hdec1 : decide (((dn + 1 : Nat) : Int) = (dn : Int) + 1) = true := by simp
                        have hdec2 : ((dn + 1 : Nat) : Int) = (dn : Int) + 1 := by omega
                        have hdec3 : decide ((dn : Int) + 1 = (dn : Int) + 1) = true := by simp
                        have hWs : Seg .u8 W9.drew (some ⟨g, bs.length, none⟩) (toI (marks 75)) := sback
                        have hWb : Below w.heap.size w W9.drew := hB9.drew
                        have b1 : (bs.length : Int) ≤ (bs.length + 75 : Int) := by omega
                        refine Mix.start (by kernel_rfl) ?_
                        obtain ⟨WA, hWA⟩ : ∃ WA, WA = W9.drew := ⟨_, rfl⟩
                        rw [← hWA] at hWs hWb ⊢
                        clear hWA sback hB9 hR9 hG3
                        refine Mix.take [true, true, true, true, true, true, true] 8 (by kernel_rfl) (by kernel_rfl) (by decide) (by kernel_rfl) (fun K hK => ?_)
                        simp only [Mix.pick]
                        repeat (go_big_quiet_step (fail))
                        refine wpQuiet_nil (hK _ ?_)
                        clear hK K
                        refine Mix.take [false, false, false, false, false, false, false, true, true, true, true] 4 (by kernel_rfl) (by kernel_rfl) (by decide) (by kernel_rfl) (fun K hK => ?_)
                        simp only [Mix.pick]
                        repeat (go_big_quiet_step (fail))
                        refine wpQuiet_nil (hK _ ?_)
                        clear hK K
                        refine Mix.one [false, false, false, false, false, false, false, false, false, false, false, true] 3 11 _ rfl rfl (by kernel_rfl) (by kernel_rfl) (fun K hK => ?_)
                        simp only [Mix.pick]
                        go_wp2_with fail
                        refine (roomy_nil _).mono ?_
                        rintro e W10 ⟨g10, c10, rfl, ho10, hb10⟩
                        go_wp2
                        refine ⟨rfl, hK _ _ ?_⟩
                        clear hK K
                        refine Mix.one [false, false, false, false, false, false, false, false, false, false, false, false, true] 2 12 _ rfl rfl (by kernel_rfl) (by kernel_rfl) (fun K hK => ?_)
                        simp only [Mix.pick]
                        go_wp2_with fail
                        refine (same_back g bs.length _ _ _ _ _ (by omega) ?_ ?_).mono ?_
                        exact hWs.old hb10
                        exact owns_at ho10
                        rintro e W11 ⟨rfl, rfl⟩
                        go_wp2
                        refine ⟨rfl, hK _ _ ?_⟩
                        clear hK K
                        refine Mix.take [false, false, false, false, false, false, false, false, false, false, false, false, false, true, true] 0 (by kernel_rfl) (by kernel_rfl) (by decide) (by kernel_rfl) (fun K hK => ?_)
                        simp only [Mix.pick]
                        repeat (go_big_quiet_step (fail))
                        refine wpQuiet_nil (hK _ ?_)
                        clear hK K
                        refine Mix.done (by kernel_rfl) ?_
                        go_wp2
                        go_ret
                        exact ⟨rfl, hWb.trans (hb10.mono hWb.size)⟩
              · have hlo' : lo < 0 ∨ (bs.length : Int) < lo := by omega
                clear hlo
                rcases hlo' with hlo | hlo
                all_goals
                  go_wp2
                  go_ret
                  exact ⟨rfl, hB5⟩
            · have hB' := hB
              have hR' := hR
              have hG' := hG
              obtain ⟨cs', hcs⟩ : ∃ cs', cs' = cs := ⟨_, rfl⟩
              rw [← hcs] at hR' hG'
              have hp' : place < 0 ∨ nn ≤ place := by omega
              clear hp hcs
              rcases hp' with hp | hp
              all_goals
                go_wp2_with fail
                clear hR hG hB hp
                obtain ⟨W, hW⟩ : ∃ W, W = wr := ⟨_, rfl⟩
                rw [← hW] at hR' hB' ⊢
                clear hW
                have hlen := hG'.len
                have hgW : g < W.heap.size := (World.ownsRow.lt hR' g rfl).2
                have hJ := join_any (some ⟨g, 0, none⟩) none none c 0 0 cs' [] [] W hR'.seg (.inl rfl) (.inl rfl) (by simp; omega)
                rw [hlen] at hJ
                simp only [List.append_nil, List.length_nil, Nat.add_zero] at hJ
                refine hJ.mono ?_
                rintro e W1 ⟨v2, rfl, ho2, hb2⟩
                obtain ⟨g2, c2, rfl, _, _, _, _⟩ := owns_block ho2 (by omega)
                have hR1 := hR'.below hb2
                obtain ⟨sw1, nw⟩ := hR1.win hG' (show an + nn ≤ bs.length + 75 by omega) HWA.out
                have NW : Hid ((toI ((cs'.drop an).take nn)).length = nn) := nw
                obtain ⟨zw, hzw⟩ : ∃ zw, zw = toI ((cs'.drop an).take nn) := ⟨_, rfl⟩
                rw [← hzw] at sw1 NW
                obtain ⟨sz1, nz⟩ := hR1.win hG' (show 0 + bs.length ≤ bs.length + 75 by omega) (cut_all g bs.length)
                have NZ : Hid ((toI ((cs'.drop 0).take bs.length)).length = bs.length) := nz
                obtain ⟨zz, hzz⟩ : ∃ zz, zz = toI ((cs'.drop 0).take bs.length) := ⟨_, rfl⟩
                rw [← hzz] at sz1 NZ
                have HLEN : Hid (cs'.length = bs.length + 75) := hlen
                clear hzw hzz nw nz hlen hJ
                go_wp2_with (at_builtin; refine wpList_append_full rfl (.tmp 160) (.tmp 161) 22 rfl 5 j0 (.int .u8 0) 1 Try.underlying22 gi gz0 gz1 gz2 rfl .u8 _ nn zw rfl NW.out (sw1.old ((Below.refl _ _).alloc (Nat.le_refl _) _)) ⟨W1.heap.size, 0, none⟩ 1 1 [.int .u8 251] rfl rfl (news_alloc W1 [.int .u8 251] _) (by decide) (by unfold maxLen; omega) (by omega) ?_)
                intro v3 W2 ho3 hg3
                obtain ⟨a3, c3, rfl⟩ := owns_shape ho3
                have hb3 : Below W1.heap.size W1 W2 := ((Below.refl _ _).alloc (Nat.le_refl _) _).grown hg3 (by simp) (by intro k hk; cases hk)
                clear ho3 hg3
                go_wp2_with (at_builtin; refine wpList_append_full rfl (.tmp 163) (.tmp 164) 22 rfl 5 j0 (.int .u8 0) 1 Try.underlying22 gi gz0 gz1 gz2 rfl .u8 _ nn zw rfl NW.out ((sw1.old hb3).old ((Below.refl _ _).alloc (Nat.le_refl _) _)) ⟨W2.heap.size, 0, none⟩ 2 2 [.int .u8 252, .int .u8 252] rfl rfl (news_alloc W2 [.int .u8 252, .int .u8 252] _) (by decide) (by unfold maxLen; omega) (by omega) ?_)
                intro v4 W3 ho4 hg4
                obtain ⟨a4, c4, rfl⟩ := owns_shape ho4
                have hb4 : Below W1.heap.size W1 W3 := hb3.trans ((((Below.refl _ _).alloc (Nat.le_refl _) _).grown hg4 (by simp) (by intro k hk; cases hk)).mono hb3.size)
                clear ho4 hg4 hb3
                go_wp2_with (at_builtin; refine wpList_append_full rfl (.tmp 166) (.tmp 167) 22 rfl 5 j0 (.int .u8 0) 1 Try.underlying22 gi gz0 gz1 gz2 rfl .u8 _ bs.length zz rfl NZ.out ((sz1.old hb4).old ((Below.refl _ _).alloc (Nat.le_refl _) _)) ⟨W3.heap.size, 0, none⟩ 3 3 [.int .u8 253, .int .u8 253, .int .u8 253] rfl rfl (news_alloc W3 [.int .u8 253, .int .u8 253, .int .u8 253] _) (by decide) (by unfold maxLen; omega) (by omega) ?_)
                intro v5 W4 ho5 hg5
                obtain ⟨a5, c5, rfl⟩ := owns_shape ho5
                have hb5 : Below W1.heap.size W1 W4 := hb4.trans ((((Below.refl _ _).alloc (Nat.le_refl _) _).grown hg5 (by simp) (by intro k hk; cases hk)).mono hb4.size)
                clear ho5 hg5 hb4
                have hR4 := hR1.below hb5
                have hgW4 : g < W4.heap.size := (World.ownsRow.lt hR4 g rfl).2
                have hB4 : Below w.heap.size w W4 := (hB'.trans (hb2.mono hB'.size)).trans (hb5.mono (Nat.le_trans hB'.size hb2.size))
                have s2 : Seg .u8 W4 (some ⟨g2, 0, none⟩) (toI cs') := (owns_at ho2).old hb5
                go_wp2_with fail
                refine (same_true (some ⟨g, 0, none⟩) (some ⟨g2, 0, none⟩) _ _ (bs.length + 75) cs' W4 hR4.seg s2 HLEN.out hG'.byte).mono ?_
                rintro e W5 ⟨rfl, rfl⟩
                clear s2 ho2 hb5 hR1 sw1 sz1 hb2 hR' hB'
                go_wp2_with fail
                refine (at_any (some ⟨g, 0, none⟩) bs.length c W4 hcl hcm).mono ?_
                rintro e W5 ⟨rfl, hW5⟩
                rw [cut_all] at hW5
                have hcur : Cur W5 W4.heap.size (some ⟨g, 0, none⟩) bs.length 0 := by rw [hW5]; exact cur_new _ _ _ _
                have hb5 : Below W4.heap.size W4 W5 := by rw [hW5]; exact (Below.refl _ _).alloc (Nat.le_refl _) _
                clear hW5
                have hR5 := hR4.below hb5
                have hB5 : Below w.heap.size w W5 := hB4.trans (hb5.mono hB4.size)
                have hW4s : w.heap.size ≤ W4.heap.size := hB4.size
                clear hR4 hB4 hb5
                by_cases hlo : 0 ≤ lo ∧ lo ≤ bs.length
                · obtain ⟨ln, rfl⟩ := Int.eq_ofNat_of_zero_le hlo.1
                  have hll : ln ≤ bs.length := by omega
                  clear hlo
                  obtain ⟨dn, hd1, hd2⟩ : ∃ dn, ln + dn ≤ bs.length ∧ bs.length ≤ ln + dn := ⟨bs.length - ln, by omega, by omega⟩
                  obtain ⟨xa, hxa, hxp⟩ := cut_addr g ln dn
                  have HXA : Hid (cutA (some ⟨g, 0, none⟩) ln dn = some xa) := hxa
                  have HXP : Hid (0 < dn → xa = ⟨g, ln, none⟩) := hxp
                  clear hxa hxp
                  go_wp2_with fail
                  refine (curSkip_ok W4.heap.size (some ⟨g, 0, none⟩) bs.length 0 ln W5 hcur (by omega) (by omega)).mono ?_
                  rintro e W6 ⟨rfl, hcur6, hg6⟩
                  rw [Nat.zero_add] at hcur6
                  have hR6 : Row W6 w.heap.size g bs.length c cs' := World.ownsRow.kept hR5 hg6 (.inr (by simp [Value.ownBlock]; omega))
                  have hB6 : Below w.heap.size w W6 := hB5.grown hg6 hB5.size (by intro k hk; cases hk; exact hW4s)
                  clear hR5 hB5 hg6 hcur
                  go_wp2_with fail
                  rw [show ((bs.length : Int) - (ln : Int)) = (dn : Int) by omega]
                  refine (curWindow_ok W4.heap.size (some ⟨g, 0, none⟩) bs.length ln dn W6 hcur6 hd1 (by omega)).mono ?_
                  rintro e W7 ⟨rfl, hcur7, hg7⟩
                  rw [HXA.out]
                  have hR7 : Row W7 w.heap.size g bs.length c cs' := World.ownsRow.kept hR6 hg7 (.inr (by simp [Value.ownBlock]; omega))
                  have hB7 : Below w.heap.size w W7 := hB6.grown hg7 hB6.size (by intro k hk; cases hk; exact hW4s)
                  clear hR6 hB6 hg7 hcur6 hcur7
                  go_wp2_with fail
                  refine (num_any 0 W7).mono ?_
                  rintro e W8 ⟨rfl, rfl⟩
                  go_wp2_with fail
                  refine (num_any 0 W7).mono ?_
                  rintro e W8 ⟨rfl, rfl⟩
                  go_wp2_with fail
                  go_loopw [27] (fun ix wr3 => ∃ (k : Nat) (ds : List Nat), k ≤ dn ∧ ix = .int .i64 k ∧ Row wr3 w.heap.size g bs.length c ds ∧ Good bs.length ds ∧ (∀ i, i < k → ds.getD (ln + i) 0 = 5) ∧ Below w.heap.size w wr3) (fun ix _ => dn - (intOf ix).toNat)
                  case atStart => exact ⟨0, _, Nat.zero_le _, rfl, hR7, hG', fun i hi => by omega, hB7⟩
                  case round =>
                    obtain ⟨k, ds, hk3, rfl, hR3, hG3, hM3, hB3⟩ := hrel
                    clear hR7 hB7 hG'
                    by_cases hlt3 : k < dn
                    · obtain rfl : xa = ⟨g, ln, none⟩ := HXP.out (by omega)
                      have hc := hR3.cell hG3 (j := ln + k) (by omega)
                      have hf := World.ownsRow.frozenAt hR3 (ln + k)
                      have hRn := hR3.set (ln + k) 5
                      have hGn : Good bs.length (ds.set (ln + k) 5) := hG3.set (by omega) (by omega)
                      have hMn : ∀ i, i < k + 1 → (ds.set (ln + k) 5).getD (ln + i) 0 = 5 := by
                        intro i hi
                        by_cases e : i = k
                        · subst e; exact getD_set_same _ _ _ (by have := hG3.len; omega)
                        · rw [getD_set_ne _ _ _ _ (by omega)]; exact hM3 i (by omega)
                      have HMn : Hid (∀ i, i < k + 1 → (ds.set (ln + k) 5).getD (ln + i) 0 = 5) := hMn
                      clear hMn hM3
                      obtain ⟨old, hold⟩ : ∃ old : Int, old = (ds.getD (ln + k) 0 : Nat) := ⟨_, rfl⟩
                      rw [← hold] at hc
                      clear hold
                      go_wp2
                      go_roundw
                      case rel => exact ⟨k + 1, _, by omega, by go_num, hRn, hGn, HMn.out, hB3.setCell hg0 _⟩
                      case measure => simp [intOf]; omega
                    · have ekn : dn = k := by omega
                      subst ekn
                      have HM3 : Hid (∀ i, i < dn → ds.getD (ln + i) 0 = 5) := hM3
                      clear hM3
                      obtain ⟨sx, nx⟩ := hR3.win hG3 (show ln + dn ≤ bs.length + 75 by omega) HXA.out
                      have NX : Hid ((toI ((ds.drop ln).take dn)).length = dn) := nx
                      obtain ⟨zx, hzx⟩ : ∃ zx, zx = toI ((ds.drop ln).take dn) := ⟨_, rfl⟩
                      rw [← hzx] at sx NX
                      clear hzx nx
                      go_wp2_with (at_builtin; refine wpList_append_full rfl (.tmp 249) (.tmp 250) 22 rfl 5 j0 (.int .u8 0) 1 Try.underlying22 gi gz0 gz1 gz2 rfl .u8 _ dn zx rfl NX.out (sx.old ((Below.refl _ _).alloc (Nat.le_refl _) _)) ⟨wr.heap.size, 0, none⟩ 1 1 [.int .u8 254] rfl rfl (news_alloc wr [.int .u8 254] _) (by decide) (by unfold maxLen; omega) (by omega) ?_)
                      intro v9 W9 ho9 hg9
                      obtain ⟨a9, c9, rfl⟩ := owns_shape ho9
                      have hb9 : Below wr.heap.size wr W9 := ((Below.refl _ _).alloc (Nat.le_refl _) _).grown hg9 (by simp) (by intro k hk; cases hk)
                      have hR9 := hR3.below hb9
                      have hB9 : Below w.heap.size w W9 := hB3.trans (hb9.mono hB3.size)
                      clear ho9 hg9 hb9 hR3 hB3 sx
                      go_wp2_with fail
                      go_loopw [29] (fun ix wr4 => ∃ k : Nat, ln ≤ k ∧ k ≤ bs.length ∧ ix = .int .i64 k ∧ W9 = wr4) (fun ix _ => bs.length - (intOf ix).toNat)
                      case atStart => exact ⟨ln, Nat.le_refl _, hll, rfl, rfl⟩
                      case round =>
                        obtain ⟨k, hk4, hk5, rfl, rfl⟩ := hrel
                        by_cases hlt4 : k < bs.length
                        · have hc : W9.cell? ⟨g, k, none⟩ = some (.int .u8 5) := by
                            have e1 := HM3.out (k - ln) (by omega)
                            rw [show ln + (k - ln) = k by omega] at e1
                            rw [hR9.cell hG3 (by omega), e1]
                            rfl
                          go_wp2
                          go_roundw
                          case rel => exact ⟨k + 1, by omega, by omega, by go_num, trivial⟩
                          case measure => simp [intOf]; omega
                        · have ekn : bs.length = k := by omega
                          subst ekn
                          clear HM3
                          go_wp2_with fail
                          have sback : Seg .u8 W9 (some ⟨g, bs.length, none⟩) (toI (marks 75)) := by
                            have h1 := hR9.seg.cut bs.length 75 (by rw [toI_len]; have := hG3.len; omega)
                            rw [toI_drop, hG3.back, toI_take, List.take_of_length_le (by rw [marks_len]; exact Nat.le_refl _)] at h1
                            rwa [cut_back] at h1
                          have hdec1 : decide (((dn + 1 : Nat) : Int) = (dn : Int) + 1) = true := by simp
                          have hdec2 : ((dn + 1 : Nat) : Int) = (dn : Int) + 1 := by omega
                          have hdec3 : decide ((dn : Int) + 1 = (dn : Int) + 1) = true := by simp
                          have hWs : Seg .u8 W9.drew (some ⟨g, bs.length, none⟩) (toI (marks 75)) := sback
                          have hWb : Below w.heap.size w W9.drew := hB9.drew
                          have b1 : (bs.length : Int) ≤ (bs.length + 75 : Int) := by omega
                          refine Mix.start (by kernel_rfl) ?_
                          obtain ⟨WA, hWA⟩ : ∃ WA, WA = W9.drew := ⟨_, rfl⟩
                          rw [← hWA] at hWs hWb ⊢
                          clear hWA sback hB9 hR9 hG3
                          refine Mix.take [true, true, true, true, true, true, true] 8 (by kernel_rfl) (by kernel_rfl) (by decide) (by kernel_rfl) (fun K hK => ?_)
                          simp only [Mix.pick]
                          repeat (go_big_quiet_step (fail))
                          refine wpQuiet_nil (hK _ ?_)
                          clear hK K
                          refine Mix.take [false, false, false, false, false, false, false, true, true, true, true] 4 (by kernel_rfl) (by kernel_rfl) (by decide) (by kernel_rfl) (fun K hK => ?_)
                          simp only [Mix.pick]
                          repeat (go_big_quiet_step (fail))
                          refine wpQuiet_nil (hK _ ?_)
                          clear hK K
                          refine Mix.one [false, false, false, false, false, false, false, false, false, false, false, true] 3 11 _ rfl rfl (by kernel_rfl) (by kernel_rfl) (fun K hK => ?_)
                          simp only [Mix.pick]
                          go_wp2_with fail
                          refine (roomy_nil _).mono ?_
                          rintro e W10 ⟨g10, c10, rfl, ho10, hb10⟩
                          go_wp2
                          refine ⟨rfl, hK _ _ ?_⟩
                          clear hK K
                          refine Mix.one [false, false, false, false, false, false, false, false, false, false, false, false, true] 2 12 _ rfl rfl (by kernel_rfl) (by kernel_rfl) (fun K hK => ?_)
                          simp only [Mix.pick]
                          go_wp2_with fail
                          refine (same_back g bs.length _ _ _ _ _ (by omega) ?_ ?_).mono ?_
                          exact hWs.old hb10
                          exact owns_at ho10
                          rintro e W11 ⟨rfl, rfl⟩
                          go_wp2
                          refine ⟨rfl, hK _ _ ?_⟩
                          clear hK K
                          refine Mix.take [false, false, false, false, false, false, false, false, false, false, false, false, false, true, true] 0 (by kernel_rfl) (by kernel_rfl) (by decide) (by kernel_rfl) (fun K hK => ?_)
                          simp only [Mix.pick]
                          repeat (go_big_quiet_step (fail))
                          refine wpQuiet_nil (hK _ ?_)
                          clear hK K
                          refine Mix.done (by kernel_rfl) ?_
                          go_wp2
                          go_ret
                          exact ⟨rfl, hWb.trans (hb10.mono hWb.size)⟩
                · have hlo' : lo < 0 ∨ (bs.length : Int) < lo := by omega
                  clear hlo
                  rcases hlo' with hlo | hlo
                  all_goals
                    go_wp2
                    go_ret
                    exact ⟨rfl, hB5⟩
  · have hwin : ∃ er : Int, (er = 1 ∨ er = 10) ∧ Hid (Calls Try.prog 10 #[.slice (some ⟨g, 0, none⟩) bs.length c, .int .i64 at', .int .i64 n] w1 fun e w' => e = .returned (.tuple #[.slice none 0 0, .int .i64 er]) ∧ Below w1.heap.size w1 w') := by
      by_cases h1 : n < 0
      · exact ⟨1, .inl rfl, window_arg _ _ _ _ _ _ h1⟩
      · exact ⟨10, .inr rfl, window_out _ _ _ _ _ _ (by omega) hn hcl hcm ha (by omega)⟩
    obtain ⟨er, her, HW⟩ := hwin
    go_wp2_with fail
    refine Calls.mono HW.out ?_
    rintro e w2 ⟨rfl, hb2⟩
    go_wp2_with fail
    refine (window_ok (some ⟨g, 0, none⟩) bs.length c 0 bs.length w2 (by omega) hcl hcm).mono ?_
    rintro e w3 ⟨rfl, hb3⟩
    rw [cut_all]
    go_wp2_with fail
    refine (num_any 0 w3).mono ?_
    rintro e w4 ⟨rfl, rfl⟩
    go_wp2_with fail
    refine (started_any w3).mono ?_
    rintro e w4 ⟨rfl, hb4⟩
    go_wp2_with fail
    refine (num_any er w4).mono ?_
    rintro e w5 ⟨rfl, rfl⟩
    have hb14 : Below w1.heap.size w1 w4 := (hb2.trans (hb3.mono hb2.size)).trans (hb4.mono (Nat.le_trans hb2.size hb3.size))
    have hB4 : Below w.heap.size w w4 := hb1.trans (hb14.mono hb1.size)
    have her0 : ¬ er = 0 := by omega
    clear her
    go_wp2
    go_ret
    exact ⟨rfl, hB4⟩
end Go.Proofs.Ythfhagcbakihjaa.viewShares
