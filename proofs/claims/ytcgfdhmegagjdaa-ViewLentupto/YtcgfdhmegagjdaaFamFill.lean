/-
  The statements' tail and filled.
-/
import Derived.Test.YtcgfdhmegagjdaaFam
import Derived.Deep.DeepCutAuto
namespace Go.Proofs.Ytcgfdhmegagjdaa.Fm
open Go.RowKit

theorem lst_cell {w : World} {base : Nat} {lv : Value} {N : Nat} {V : Nat → Value} (h : w.ownsRow base 22 1 lv N ((List.range N).map V)) (i : Nat) (hi : i < N) : ∃ lb cap, lv = .slice (some ⟨lb, 0, none⟩) N cap ∧ w.cell? ⟨lb, i, none⟩ = some (V i) := by
  obtain ⟨lb, cap, e, _, _⟩ := own_block h (by omega)
  refine ⟨lb, cap, e, ?_⟩
  rw [e] at h
  rw [h.cellAt i (by omega)]
  simp [hi]
theorem lst_cell' {w : World} {base lb cap : Nat} {N : Nat} {V : Nat → Value} (h : w.ownsRow base 22 1 (.slice (some ⟨lb, 0, none⟩) N cap) N ((List.range N).map V)) (i : Nat) (hi : i < N) : w.cell? ⟨lb, i, none⟩ = some (V i) := by
  rw [h.cellAt i (by omega)]
  simp [hi]
set_option maxHeartbeats 400000 in
theorem tail_any (i T : Nat) (w : World) (hi : i ≤ 1000000) (hT : T ≤ 100) (hT0 : 0 < T) :
    Calls Try.prog 35 #[.int .i64 i, .int .i64 T] w fun e w' => ∃ g c, e = .returned (.slice (some ⟨g, 0, none⟩) T c) ∧ (∀ j, j < T → w'.cell? ⟨g, j, none⟩ = some (.int .u8 ((251 + i % 5 : Nat) : Int))) ∧ Below w.heap.size w w' := by
  obtain ⟨i0, hi0, hz0, hz1, hz2⟩ := info_parts Try.infoByte
  have hu : IntKind.u8.wrap (251 + (i : Int) % 5) = ((251 + i % 5 : Nat) : Int) := by rw [IntKind.wrap_u8]; omega
  obtain ⟨m, hm⟩ : ∃ m, m = 251 + i % 5 := ⟨_, rfl⟩
  rw [← hm] at hu ⊢
  have hm2 : m < 256 := by omega
  clear hm
  go_enter Try.func35, Try.ntmps35
  go_wp2
  go_loopw [5] (fun v wr => ∃ k : Nat, k ≤ T ∧ (∃ a c, v = .slice a k c) ∧ wr.ownsRow w.heap.size 5 1 v k (List.replicate k (Value.int .u8 (m : Int))) ∧ Below w.heap.size w wr) (fun v _ => match v with | .slice _ k _ => T - k | _ => 0)
  case atStart => exact ⟨0, Nat.zero_le _, ⟨none, 0, rfl⟩, World.ownsRow_nil _ _ _ _, Below.refl _ _⟩
  case round =>
    obtain ⟨k, hk, ⟨a, c, rfl⟩, hown, hbel⟩ := hrel
    by_cases hlt : k < T
    · go_wp2_with (first | (at_builtin; refine wpList_append_own _ rfl (.tmp 10) (.tmp 15) 22 rfl w.heap.size 5 i0 (.int .u8 0) 1 1 Try.underlying22 hi0 hz0 hz1 hz2 rfl (by decide) _ _ _ rfl (hown.alloc _) ⟨wr.heap.size, 0, none⟩ 1 1 [.int .u8 (m : Int)] rfl rfl ?c1 ?c2 ?c3 ?c4 ?c5 ?_))
      case c1 => exact cell_ptr' _ _ _
      case c2 => intro u hu; simp at hu; subst hu; rfl
      case c3 => unfold maxLen; omega
      case c4 => omega
      case c5 => have := hbel.size; simp; omega
      intro v2 w2 ho2 hg2 _
      have hbel2 : Below w.heap.size w w2 := (hbel.alloc hbel.size _).grown hg2 (by have := hbel.size; simp; omega) (fun j hj => (hown.lt j hj).1)
      have ho3 : w2.ownsRow w.heap.size 5 1 v2 (k + 1) (List.replicate (k + 1) (Value.int .u8 (m : Int))) := by rw [List.replicate_succ']; exact ho2
      obtain ⟨a2, c2, rfl⟩ := owns_shape ho2
      clear ho2 hg2 hown hbel
      go_wp2
      go_roundw
      case rel => exact ⟨k + 1, by omega, ⟨_, _, rfl⟩, ho3, hbel2⟩
      case measure => simp; omega
    · obtain rfl : k = T := by omega
      obtain ⟨g, c', e, _, _⟩ := own_block hown hT0
      simp only [Value.slice.injEq, true_and] at e
      obtain ⟨rfl, rfl⟩ := e
      go_wp2
      go_ret
      refine ⟨g, c, rfl, fun j hj => ?_, hbel⟩
      rw [hown.cellAt j (by omega), List.getElem?_replicate, if_pos hj]

/-- the rows while they are written full: those ahead of i, the i-th up to k -/
def fc (n : Nat → Nat) (X : Nat → List Value) (i k j : Nat) : List Value := if j < i then mks (n j) j (n j) else if j = i then (mks (n i) i (n i)).take k ++ (X i).drop k else X j
theorem fc_zero (n : Nat → Nat) (X : Nat → List Value) (j : Nat) : fc n X 0 0 j = X j := by
  unfold fc
  by_cases h : j = 0
  · subst h; simp
  · simp [h]
theorem fc_next (n : Nat → Nat) (X : Nat → List Value) (i j : Nat) (h : (X i).length = n i) : fc n X i (n i) j = fc n X (i + 1) 0 j := by
  unfold fc
  by_cases h1 : j < i
  · simp [h1, show j < i + 1 by omega]
  · by_cases h2 : j = i
    · subst h2
      simp [List.take_of_length_le (show (mks (n j) j (n j)).length ≤ n j by rw [mks_len]; exact Nat.le_refl _), List.drop_eq_nil_of_le (show (X j).length ≤ n j by omega)]
    · by_cases h3 : j = i + 1
      · subst h3; simp [h1]
      · simp [h1, h2, h3, show ¬ j < i + 1 by omega]
theorem fc_set (n : Nat → Nat) (X : Nat → List Value) (i k : Nat) (h : (X i).length = n i) (hk : k < n i) : (fc n X i k i).set k (.int .u8 ((1 + i % 250 : Nat) : Int)) = fc n X i (k + 1) i := by
  have e : ∀ k, fc n X i k i = (mks (n i) i (n i)).take k ++ (X i).drop k := fun k => by simp [fc]
  rw [e, e]
  have := take_set (mks (n i) i (n i)) (X i) k (by rw [mks_len, h]) (by omega)
  rw [← this]
  congr 1
  simp [mks, mkAt, hk]
theorem fc_other (n : Nat → Nat) (X : Nat → List Value) (i k j : Nat) (h : j ≠ i) : fc n X i (k + 1) j = fc n X i k j := by
  unfold fc; simp [h]
/-- while the rows are written full -/
structure Fill (w0 w : World) (base : Nat) (n : Nat → Nat) (S : Nat → Prop) (lv : Value) (N : Nat) (V : Nat → Value) (C : Nat → List Value) : Prop where
  rows : ∀ j, j < N → w.ownsRow base 5 1 (V j) (n j) (C j)
  lst : w.ownsRow base 22 1 lv N ((List.range N).map V)
  ch : Ch S w0 w
theorem Fill.store {w0 w : World} {base : Nat} {n : Nat → Nat} {S : Nat → Prop} {lv : Value} {N : Nat} {V : Nat → Value} {X : Nat → List Value} {i k g c : Nat} (h : Fill w0 w base n S lv N V (fc n X i k)) (hi : i < N) (hX : (X i).length = n i) (hk : k < n i) (hV : V i = .slice (some ⟨g, 0, none⟩) (n i) c) (hS : S g)
    (dis : ∀ i j, i < N → j < N → i ≠ j → ∀ q, (V i).ownBlock = some q → (V j).ownBlock ≠ some q) : Fill w0 (w.setCell ⟨g, k, none⟩ (.int .u8 ((1 + i % 250 : Nat) : Int))) base n S lv N V (fc n X i (k + 1)) := by
  have hr := h.rows i hi
  have hr' := hr
  rw [hV] at hr'
  have hb : (V i).ownBlock = some g := by rw [hV]; rfl
  obtain ⟨h1, h2⟩ := hr'.stored k (.int .u8 ((1 + i % 250 : Nat) : Int))
  rw [fc_set n X i k hX hk] at h1
  have hc := Ch.ofGrown h2
  refine ⟨fun j hj => ?_, hc.owns h.lst (fun q hq e => ?_), h.ch.trans hc (fun x _ e => ?_)⟩
  · by_cases e : j = i
    · subst e; rw [hV]; exact h1
    · rw [fc_other _ _ _ _ _ e]
      exact hc.owns (h.rows j hj) (fun q hq e' => by
        simp only [Option.some.injEq] at e'
        subst e'
        exact dis j i hj hi e _ hq hb)
  · simp only [Option.some.injEq] at e
    subst e
    exact apart3 h.lst hr (by decide) _ hq hb
  · simp only [Option.some.injEq] at e
    subst e; exact hS
/-- the longer ones -/
def Mem (n : Nat → Nat) (F : List Sl) (V M : Nat → Value) (N i : Nat) : Prop :=
  (∀ j, j < N → (⟨j, V j, n j⟩ : Sl) ∈ F) ∧ ∀ j, j < i → (⟨j, M (3 * j), n j + 1⟩ : Sl) ∈ F ∧ (⟨j, M (3 * j + 1), n j + 2⟩ : Sl) ∈ F ∧ (⟨j, M (3 * j + 2), n j + 70⟩ : Sl) ∈ F
def upd3 (M : Nat → Value) (i : Nat) (a b c : Value) (k : Nat) : Value := if k = 3 * i then a else if k = 3 * i + 1 then b else if k = 3 * i + 2 then c else M k
theorem upd3_row (M : Nat → Value) (i : Nat) (a b c : Value) : (List.range (3 * i)).map M ++ [a, b, c] = (List.range (3 * (i + 1))).map (upd3 M i a b c) := by
  rw [show 3 * (i + 1) = 3 * i + 1 + 1 + 1 by omega, List.range_succ, List.range_succ, List.range_succ]
  simp only [List.map_append, List.map_cons, List.map_nil, List.append_assoc]
  congr 1
  · refine List.map_congr_left (fun k hk => ?_)
    have := List.mem_range.1 hk
    unfold upd3
    rw [if_neg (by omega), if_neg (by omega), if_neg (by omega)]
  · simp [upd3]
theorem Mem.next {n : Nat → Nat} {F G : List Sl} {V M : Nat → Value} {N i : Nat} {a b c : Value} (h : Mem n F V M N i) (hG : ∀ r ∈ F, r ∈ G) (h1 : (⟨i, a, n i + 1⟩ : Sl) ∈ G) (h2 : (⟨i, b, n i + 2⟩ : Sl) ∈ G) (h3 : (⟨i, c, n i + 70⟩ : Sl) ∈ G) : Mem n G V (upd3 M i a b c) N (i + 1) := by
  refine ⟨fun j hj => hG _ (h.1 j hj), fun j hj => ?_⟩
  by_cases e : j = i
  · subst e
    have e1 : upd3 M j a b c (3 * j) = a := by simp [upd3]
    have e2 : upd3 M j a b c (3 * j + 1) = b := by simp [upd3]
    have e3 : upd3 M j a b c (3 * j + 2) = c := by simp [upd3]
    rw [e1, e2, e3]
    exact ⟨h1, h2, h3⟩
  · obtain ⟨k1, k2, k3⟩ := h.2 j (by omega)
    have e1 : upd3 M i a b c (3 * j) = M (3 * j) := by unfold upd3; rw [if_neg (by omega), if_neg (by omega), if_neg (by omega)]
    have e2 : upd3 M i a b c (3 * j + 1) = M (3 * j + 1) := by unfold upd3; rw [if_neg (by omega), if_neg (by omega), if_neg (by omega)]
    have e3 : upd3 M i a b c (3 * j + 2) = M (3 * j + 2) := by unfold upd3; rw [if_neg (by omega), if_neg (by omega), if_neg (by omega)]
    rw [e1, e2, e3]
    exact ⟨hG _ k1, hG _ k2, hG _ k3⟩
theorem cells3' (w : World) (x y z : Value) (t : TypeId) : ∀ j u, [x, y, z][j]? = some u → (w.alloc (.cells #[x, y, z] t)).cell? ((⟨w.heap.size, 0, none⟩ : Addr).add j) = some u := by
  intro j u hj
  match j, hj with
  | 0, hj => simp at hj; subst hj; simp [go_sem, Addr.add]
  | 1, hj => simp at hj; subst hj; simp [go_sem, Addr.add]
  | 2, hj => simp at hj; subst hj; simp [go_sem, Addr.add]
  | j + 3, hj => simp at hj

/-- what filled leaves -/
def Filled (w0 w : World) (base : Nat) (n : Nat → Nat) (S : Nat → Prop) (lv : Value) (N : Nat) (V : Nat → Value) (e : Ending) : Prop :=
  ∃ (mv : Value) (F : List Sl) (M : Nat → Value), e = .returned mv ∧ w.ownsRow w0.heap.size 22 1 mv (3 * N) ((List.range (3 * N)).map M) ∧ Fam w0 w base n S lv N V F ∧ Mem n F V M N N

set_option maxRecDepth 100000 in
set_option maxHeartbeats 3200000 in
theorem filled_any (lb lc N : Nat) (V : Nat → Value) (n : Nat → Nat) (X : Nat → List Value) (w : World) (base : Nat) (hL : w.ownsRow base 22 1 (.slice (some ⟨lb, 0, none⟩) N lc) N ((List.range N).map V)) (hR : ∀ i, i < N → w.ownsRow base 5 1 (V i) (n i) (X i))
    (dis : ∀ i j, i < N → j < N → i ≠ j → ∀ q, (V i).ownBlock = some q → (V j).ownBlock ≠ some q) (hN : N ≤ 100) (hn : ∀ i, n i ≤ 1000000) (hbase : base ≤ w.heap.size) :
    Calls Try.prog 15 #[.slice (some ⟨lb, 0, none⟩) N lc] w fun e w' => Filled w w' base n (fun q => ∃ i, i < N ∧ (V i).ownBlock = some q) (.slice (some ⟨lb, 0, none⟩) N lc) N V e := by
  obtain ⟨S, hS⟩ : ∃ S : Nat → Prop, S = fun q => ∃ i, i < N ∧ (V i).ownBlock = some q := ⟨_, rfl⟩
  rw [← hS]
  have hS1 : ∀ i, i < N → ∀ q, (V i).ownBlock = some q → S q := fun i hi q hq => by rw [hS]; exact ⟨i, hi, hq⟩
  have hX : ∀ i, i < N → (X i).length = n i := fun i hi => by have := (hR i hi).1; omega
  have hlbt := (hL.lt lb rfl).2
  clear hS
  obtain ⟨j0, gi, gz0, gz1, gz2⟩ := info_parts Try.infoSl
  go_enter Try.func15, Try.ntmps15
  go_wp2
  go_loopw [3] (fun ix wr => ∃ i : Nat, i ≤ N ∧ ix = .int .i64 i ∧ Fill w wr base n S (.slice (some ⟨lb, 0, none⟩) N lc) N V (fc n X i 0)) (fun ix _ => N - (intOf ix).toNat)
  case atStart => exact ⟨0, by omega, rfl, ⟨fun j hj => by rw [fc_zero]; exact hR j hj, hL, Ch.refl _ _⟩⟩
  case round =>
  obtain ⟨i, hiN, rfl, hF⟩ := hrel
  by_cases hlt : i < N
  · obtain ⟨va, vc, hv⟩ := owns_shape (hF.rows i hlt)
    have HV : Hid (V i = .slice va (n i) vc) := hv
    have hXi := hX i hlt
    have hni := hn i
    have HNX : Hid ((X i).length = n i) := hXi
    obtain ⟨ni, hnie⟩ : ∃ ni, ni = n i := ⟨_, rfl⟩
    have HNI : Hid (n i = ni) := hnie.symm
    have hni2 : ni ≤ 1000000 := by omega
    clear hv hXi hni hnie
    go_wp2
    go_loopw [4] (fun ix wq => ∃ k : Nat, k ≤ ni ∧ ix = .int .i64 k ∧ Fill w wq base n S (.slice (some ⟨lb, 0, none⟩) N lc) N V (fc n X i k)) (fun ix _ => ni - (intOf ix).toNat)
    case atStart => exact ⟨0, by omega, rfl, hF⟩
    case round =>
      obtain ⟨k, hk, rfl, hG⟩ := hrel
      have c0 := lst_cell' hG.lst i hlt
      rw [HV.out, HNI.out] at c0
      by_cases hkl : k < ni
      · have hrow := hG.rows i hlt
        obtain ⟨g, c, e, _, _⟩ := own_block hrow (by rw [HNI.out]; omega)
        have HVe : Hid (V i = .slice (some ⟨g, 0, none⟩) (n i) c) := e
        have e2 := e
        rw [HV.out] at e2
        simp only [Value.slice.injEq, true_and] at e2
        obtain ⟨rfl, rfl⟩ := e2
        rw [e] at hrow
        have hc : ∃ z, wr.cell? ⟨g, k, none⟩ = some z := by
          have hxl := hrow.1
          have h1 := HNI.out
          have := hrow.cellAt k (by omega)
          rw [List.getElem?_eq_getElem (by omega)] at this
          exact ⟨_, this⟩
        obtain ⟨z, hz⟩ := hc
        have hfz := hrow.frozenAt k
        have hG2 := hG.store hlt HNX.out (by rw [HNI.out]; exact hkl) HVe.out (hS1 i hlt g (by rw [HVe.out]; rfl)) dis
        have hu : IntKind.u8.wrap (1 + (i : Int) % 250) = ((1 + i % 250 : Nat) : Int) := by rw [IntKind.wrap_u8]; omega
        obtain ⟨mk, hmk⟩ : ∃ mk, mk = 1 + i % 250 := ⟨_, rfl⟩
        rw [← hmk] at hu hG2
        clear hmk hrow e hG
        go_wp2
        go_roundw
        case rel => exact ⟨k + 1, by omega, by go_num, hG2⟩
        case measure => simp [intOf]; omega
      · obtain rfl : k = ni := by omega
        have hG2 : Fill w wr base n S (.slice (some ⟨lb, 0, none⟩) N lc) N V (fc n X (i + 1) 0) := by
          refine ⟨fun j hj => ?_, hG.lst, hG.ch⟩
          rw [← fc_next n X i j HNX.out, HNI.out]
          exact hG.rows j hj
        clear hG
        go_wp2
        go_roundw
        case rel => exact ⟨i + 1, by omega, by go_num, hG2⟩
        case measure => simp [intOf]; omega
  · obtain rfl : i = N := by omega
    have hF0 : Fam w wr base n S (.slice (some ⟨lb, 0, none⟩) i lc) i V ((List.range i).map (fun j => ⟨j, V j, n j⟩)) := by
      refine ⟨fun r hr => ?_, fun r hr s hs hne q hq => ?_, fun r hr q hq => ?_, hF.lst, hF.ch⟩
      · simp only [List.mem_map, List.mem_range] at hr
        obtain ⟨j, hj, rfl⟩ := hr
        have := hF.rows j hj
        unfold fc at this
        rw [if_pos hj] at this
        exact this
      · simp only [List.mem_map, List.mem_range] at hr hs
        obtain ⟨j, hj, rfl⟩ := hr
        obtain ⟨j', hj', rfl⟩ := hs
        exact dis j j' hj hj' hne q hq
      · simp only [List.mem_map, List.mem_range] at hr
        obtain ⟨j, hj, rfl⟩ := hr
        exact .inl (hS1 j hj q hq)
    have hM0 : Mem n ((List.range i).map (fun j => (⟨j, V j, n j⟩ : Sl))) V (fun _ => .slice none 0 0) i 0 := ⟨fun j hj => by simp only [List.mem_map, List.mem_range]; exact ⟨j, hj, rfl⟩, fun j hj => by omega⟩
    obtain ⟨NN, hNN⟩ : ∃ NN, NN = i := ⟨_, rfl⟩
    rw [← hNN] at hF0 hM0 hL ⊢
    have hNN2 : NN ≤ 100 := by omega
    have HNN : Hid (NN = i) := hNN
    clear hF hNN
    go_wp2
    go_loopw [5, 6] (fun mv ix wq => ∃ (i : Nat) (F : List Sl) (M : Nat → Value), i ≤ NN ∧ ix = .int .i64 i ∧ wq.ownsRow w.heap.size 22 1 mv (3 * i) ((List.range (3 * i)).map M) ∧ Fam w wq base n S (.slice (some ⟨lb, 0, none⟩) NN lc) NN V F ∧ Mem n F V M NN i) (fun _ ix _ => NN - (intOf ix).toNat)
    case atStart => exact ⟨0, _, _, by omega, rfl, World.ownsRow_nil _ _ _ _, hF0, hM0⟩
    case round =>
      clear hF0 hM0
      obtain ⟨i, F, M, hiN', rfl, hmv, hF, hM⟩ := hrel
      by_cases hlt : i < NN
      · have hm0 := hM.1 i hlt
        obtain ⟨va, vc, hv⟩ := owns_shape (hF.rows _ hm0)
        have hv' : V i = .slice va (n i) vc := hv
        rw [hv'] at hm0
        have HV : Hid (V i = .slice va (n i) vc) := hv'
        have hF0 := hF.below (Below.refl _ _).drew
        have c0 := lst_cell' hF0.lst i hlt
        rw [HV.out] at c0
        have hbs0 : base ≤ wr.drew.heap.size := Nat.le_trans hbase hF.ch.size
        have i0 : (0 : Int) ≤ (i : Int) := by omega
        have i1 : (i : Int) < (NN : Int) := by omega
        have i2 : ((i : Int)).toNat = i := by omega
        have hmv0 : wr.drew.ownsRow w.heap.size 22 1 u5 (3 * i) ((List.range (3 * i)).map M) := owns_drew hmv
        clear hv hv'
        go_upto_region 12 with fail
        go_cut [7] (fun s wx => ∃ xa xc, s = .slice xa (n i + 1) xc ∧ Fam w wx base n S (.slice (some ⟨lb, 0, none⟩) NN lc) NN V (⟨i, .slice xa (n i + 1) xc, n i + 1⟩ :: F) ∧ wx.ownsRow w.heap.size 22 1 u5 (3 * i) ((List.range (3 * i)).map M))
        case first =>
          refine Mix.start (by kernel_rfl) ?_
          refine Mix.take [true, true, true, false, true] 4 (by kernel_rfl) (by kernel_rfl) (by decide) (by kernel_rfl) (fun K hK => ?_)
          simp only [Mix.pick]
          repeat (go_big_quiet_step (fail))
          refine wpQuiet_nil (hK _ ?_)
          clear hK K
          refine Mix.pair [false, false, false, true] [false, false, false, false, false, true] 3 3 5 _ _ rfl rfl rfl rfl (by kernel_rfl) (by kernel_rfl) (fun K hK => ?_) (fun K hK => ?_)
          · simp only [Mix.pick]
            go_wp2
            refine ⟨rfl, hK _ _ ?_⟩
            clear hK K
            refine Mix.one [false, false, false, false, false, true] 2 5 _ rfl rfl (by kernel_rfl) (by kernel_rfl) (fun K hK => ?_)
            simp only [Mix.pick]
            go_wp2_with fail
            refine (tail_any i 1 _ (by omega) (by decide) (by decide)).mono ?_
            rintro e w1x ⟨tgx, tcx, rfl, htx, hbx⟩
            have hF1x := hF0.below hbx
            have c1x := lst_cell' hF1x.lst i hlt
            rw [HV.out] at c1x
            have hmwx := (Ch.ofBelow (S := none_) hbx).owns hmv0 (fun _ _ => id)
            have hbasex : base ≤ w1x.heap.size := Nat.le_trans hbs0 hbx.size
            have hnwx : ∀ j, j < 1 → w1x.cell? ((⟨tgx, 0, none⟩ : Addr).add j) = some (.int .u8 ((251 + i % 5 : Nat) : Int)) := fun j hj => by rw [Addr.add_lit, Nat.zero_add]; exact htx j hj
            clear htx
            go_wp2
            refine ⟨rfl, hK _ _ ?_⟩
            clear hK K
            refine Mix.one [false, false, false, false, false, false, true] 1 6 _ rfl rfl (by kernel_rfl) (by kernel_rfl) (fun K hK => ?_)
            simp only [Mix.pick]
            go_wp2_with (at_builtin; refine append_fam rfl (.tmp 45) (.tmp 47) rfl hF1x i (n i) 1 (.slice va (n i) vc) hm0 (Nat.le_refl _) (by have := hn i; omega) hbasex rfl ⟨tgx, 0, none⟩ tcx rfl hnwx ?_)
            intro vx wx hFx hcx
            obtain ⟨xax, xcx, rfl⟩ : ∃ a c, vx = .slice a (n i + 1) c := owns_shape (hFx.rows _ List.mem_cons_self)
            have hmvx := hcx.owns hmwx (apart3 hmwx (hF1x.rows _ hm0) (by decide))
            clear hcx hmwx hF1x hnwx c1x
            go_wp2
            refine ⟨rfl, hK _ _ ?_⟩
            clear hK K
            refine Mix.take [false, false, false, false, false, false, false, true] 0 (by kernel_rfl) (by kernel_rfl) (by decide) (by kernel_rfl) (fun K hK => ?_)
            simp only [Mix.pick]
            repeat (go_big_quiet_step (fail))
            refine wpQuiet_nil (hK _ ?_)
            clear hK K
            refine Mix.done (by kernel_rfl) ?_
            first | go_meet | (go_wp2; go_meet)
            exact ⟨xax, xcx, rfl, hFx, hmvx⟩
          · simp only [Mix.pick]
            go_wp2_with fail
            refine (tail_any i 1 _ (by omega) (by decide) (by decide)).mono ?_
            rintro e w1x ⟨tgx, tcx, rfl, htx, hbx⟩
            have hF1x := hF0.below hbx
            have c1x := lst_cell' hF1x.lst i hlt
            rw [HV.out] at c1x
            have hmwx := (Ch.ofBelow (S := none_) hbx).owns hmv0 (fun _ _ => id)
            have hbasex : base ≤ w1x.heap.size := Nat.le_trans hbs0 hbx.size
            have hnwx : ∀ j, j < 1 → w1x.cell? ((⟨tgx, 0, none⟩ : Addr).add j) = some (.int .u8 ((251 + i % 5 : Nat) : Int)) := fun j hj => by rw [Addr.add_lit, Nat.zero_add]; exact htx j hj
            clear htx
            go_wp2
            refine ⟨rfl, hK _ _ ?_⟩
            clear hK K
            refine Mix.one [false, false, false, true] 2 3 _ rfl rfl (by kernel_rfl) (by kernel_rfl) (fun K hK => ?_)
            simp only [Mix.pick]
            go_wp2
            refine ⟨rfl, hK _ _ ?_⟩
            clear hK K
            refine Mix.one [false, false, false, false, false, false, true] 1 6 _ rfl rfl (by kernel_rfl) (by kernel_rfl) (fun K hK => ?_)
            simp only [Mix.pick]
            go_wp2_with (at_builtin; refine append_fam rfl (.tmp 45) (.tmp 47) rfl hF1x i (n i) 1 (.slice va (n i) vc) hm0 (Nat.le_refl _) (by have := hn i; omega) hbasex rfl ⟨tgx, 0, none⟩ tcx rfl hnwx ?_)
            intro vx wx hFx hcx
            obtain ⟨xax, xcx, rfl⟩ : ∃ a c, vx = .slice a (n i + 1) c := owns_shape (hFx.rows _ List.mem_cons_self)
            have hmvx := hcx.owns hmwx (apart3 hmwx (hF1x.rows _ hm0) (by decide))
            clear hcx hmwx hF1x hnwx c1x
            go_wp2
            refine ⟨rfl, hK _ _ ?_⟩
            clear hK K
            refine Mix.take [false, false, false, false, false, false, false, true] 0 (by kernel_rfl) (by kernel_rfl) (by decide) (by kernel_rfl) (fun K hK => ?_)
            simp only [Mix.pick]
            repeat (go_big_quiet_step (fail))
            refine wpQuiet_nil (hK _ ?_)
            clear hK K
            refine Mix.done (by kernel_rfl) ?_
            first | go_meet | (go_wp2; go_meet)
            exact ⟨xax, xcx, rfl, hFx, hmvx⟩
        case rest =>
        obtain ⟨xax, xcx, rfl, hFx, hmvx⟩ := hcut
        obtain ⟨wx, rfl⟩ : ∃ wx, wx = wc := ⟨_, rfl⟩
        clear hF0 hmv0 c0
        have hm0' := List.mem_cons_of_mem (⟨i, .slice xax (n i + 1) xcx, n i + 1⟩ : Sl) hm0
        have hFxd := hFx.below (Below.refl _ _).drew
        have hmvxd := owns_drew hmvx
        have c0xd := lst_cell' hFxd.lst i hlt
        rw [HV.out] at c0xd
        have hbsxd : base ≤ wx.drew.heap.size := Nat.le_trans hbase hFx.ch.size
        go_upto_region 13 with fail
        go_cut [8] (fun s wx => ∃ xa xc, s = .slice xa (n i + 2) xc ∧ Fam w wx base n S (.slice (some ⟨lb, 0, none⟩) NN lc) NN V (⟨i, .slice xa (n i + 2) xc, n i + 2⟩ :: (⟨i, .slice xax (n i + 1) xcx, n i + 1⟩ :: F : List Sl)) ∧ wx.ownsRow w.heap.size 22 1 u5 (3 * i) ((List.range (3 * i)).map M))
        case first =>
          refine Mix.start (by kernel_rfl) ?_
          refine Mix.take [true, true, true, false, true] 4 (by kernel_rfl) (by kernel_rfl) (by decide) (by kernel_rfl) (fun K hK => ?_)
          simp only [Mix.pick]
          repeat (go_big_quiet_step (fail))
          refine wpQuiet_nil (hK _ ?_)
          clear hK K
          refine Mix.pair [false, false, false, true] [false, false, false, false, false, true] 3 3 5 _ _ rfl rfl rfl rfl (by kernel_rfl) (by kernel_rfl) (fun K hK => ?_) (fun K hK => ?_)
          · simp only [Mix.pick]
            go_wp2
            refine ⟨rfl, hK _ _ ?_⟩
            clear hK K
            refine Mix.one [false, false, false, false, false, true] 2 5 _ rfl rfl (by kernel_rfl) (by kernel_rfl) (fun K hK => ?_)
            simp only [Mix.pick]
            go_wp2_with fail
            refine (tail_any i 2 _ (by omega) (by decide) (by decide)).mono ?_
            rintro e w1y ⟨tgy, tcy, rfl, hty, hby⟩
            have hF1y := hFxd.below hby
            have c1y := lst_cell' hF1y.lst i hlt
            rw [HV.out] at c1y
            have hmwy := (Ch.ofBelow (S := none_) hby).owns hmvxd (fun _ _ => id)
            have hbasey : base ≤ w1y.heap.size := Nat.le_trans hbsxd hby.size
            have hnwy : ∀ j, j < 2 → w1y.cell? ((⟨tgy, 0, none⟩ : Addr).add j) = some (.int .u8 ((251 + i % 5 : Nat) : Int)) := fun j hj => by rw [Addr.add_lit, Nat.zero_add]; exact hty j hj
            clear hty
            go_wp2
            refine ⟨rfl, hK _ _ ?_⟩
            clear hK K
            refine Mix.one [false, false, false, false, false, false, true] 1 6 _ rfl rfl (by kernel_rfl) (by kernel_rfl) (fun K hK => ?_)
            simp only [Mix.pick]
            go_wp2_with (at_builtin; refine append_fam rfl (.tmp 52) (.tmp 54) rfl hF1y i (n i) 2 (.slice va (n i) vc) hm0' (Nat.le_refl _) (by have := hn i; omega) hbasey rfl ⟨tgy, 0, none⟩ tcy rfl hnwy ?_)
            intro vy wy hFy hcy
            obtain ⟨xay, xcy, rfl⟩ : ∃ a c, vy = .slice a (n i + 2) c := owns_shape (hFy.rows _ List.mem_cons_self)
            have hmvy := hcy.owns hmwy (apart3 hmwy (hF1y.rows _ hm0') (by decide))
            clear hcy hmwy hF1y hnwy c1y
            go_wp2
            refine ⟨rfl, hK _ _ ?_⟩
            clear hK K
            refine Mix.take [false, false, false, false, false, false, false, true] 0 (by kernel_rfl) (by kernel_rfl) (by decide) (by kernel_rfl) (fun K hK => ?_)
            simp only [Mix.pick]
            repeat (go_big_quiet_step (fail))
            refine wpQuiet_nil (hK _ ?_)
            clear hK K
            refine Mix.done (by kernel_rfl) ?_
            first | go_meet | (go_wp2; go_meet)
            exact ⟨xay, xcy, rfl, hFy, hmvy⟩
          · simp only [Mix.pick]
            go_wp2_with fail
            refine (tail_any i 2 _ (by omega) (by decide) (by decide)).mono ?_
            rintro e w1y ⟨tgy, tcy, rfl, hty, hby⟩
            have hF1y := hFxd.below hby
            have c1y := lst_cell' hF1y.lst i hlt
            rw [HV.out] at c1y
            have hmwy := (Ch.ofBelow (S := none_) hby).owns hmvxd (fun _ _ => id)
            have hbasey : base ≤ w1y.heap.size := Nat.le_trans hbsxd hby.size
            have hnwy : ∀ j, j < 2 → w1y.cell? ((⟨tgy, 0, none⟩ : Addr).add j) = some (.int .u8 ((251 + i % 5 : Nat) : Int)) := fun j hj => by rw [Addr.add_lit, Nat.zero_add]; exact hty j hj
            clear hty
            go_wp2
            refine ⟨rfl, hK _ _ ?_⟩
            clear hK K
            refine Mix.one [false, false, false, true] 2 3 _ rfl rfl (by kernel_rfl) (by kernel_rfl) (fun K hK => ?_)
            simp only [Mix.pick]
            go_wp2
            refine ⟨rfl, hK _ _ ?_⟩
            clear hK K
            refine Mix.one [false, false, false, false, false, false, true] 1 6 _ rfl rfl (by kernel_rfl) (by kernel_rfl) (fun K hK => ?_)
            simp only [Mix.pick]
            go_wp2_with (at_builtin; refine append_fam rfl (.tmp 52) (.tmp 54) rfl hF1y i (n i) 2 (.slice va (n i) vc) hm0' (Nat.le_refl _) (by have := hn i; omega) hbasey rfl ⟨tgy, 0, none⟩ tcy rfl hnwy ?_)
            intro vy wy hFy hcy
            obtain ⟨xay, xcy, rfl⟩ : ∃ a c, vy = .slice a (n i + 2) c := owns_shape (hFy.rows _ List.mem_cons_self)
            have hmvy := hcy.owns hmwy (apart3 hmwy (hF1y.rows _ hm0') (by decide))
            clear hcy hmwy hF1y hnwy c1y
            go_wp2
            refine ⟨rfl, hK _ _ ?_⟩
            clear hK K
            refine Mix.take [false, false, false, false, false, false, false, true] 0 (by kernel_rfl) (by kernel_rfl) (by decide) (by kernel_rfl) (fun K hK => ?_)
            simp only [Mix.pick]
            repeat (go_big_quiet_step (fail))
            refine wpQuiet_nil (hK _ ?_)
            clear hK K
            refine Mix.done (by kernel_rfl) ?_
            first | go_meet | (go_wp2; go_meet)
            exact ⟨xay, xcy, rfl, hFy, hmvy⟩
        case rest =>
        obtain ⟨xay, xcy, rfl, hFy, hmvy⟩ := hcut
        obtain ⟨wy, rfl⟩ : ∃ wy, wy = wc := ⟨_, rfl⟩
        clear hFx hmvx hFxd hmvxd c0xd
        have c0y := lst_cell' hFy.lst i hlt
        rw [HV.out] at c0y
        obtain ⟨FF, hFF⟩ : ∃ FF, FF = (⟨i, .slice xay (n i + 2) xcy, n i + 2⟩ :: ⟨i, .slice xax (n i + 1) xcx, n i + 1⟩ :: F : List Sl) := ⟨_, rfl⟩
        have HFF : Hid (FF = (⟨i, .slice xay (n i + 2) xcy, n i + 2⟩ :: ⟨i, .slice xax (n i + 1) xcx, n i + 1⟩ :: F : List Sl)) := hFF
        rw [← hFF] at hFy
        have hmz : (⟨i, .slice va (n i) vc, n i⟩ : Sl) ∈ FF := by rw [hFF]; simp [hm0]
        clear hFF
        go_wp2
        go_loopw [9, 10] (fun gv ix wq => ∃ (k : Nat) (G : List Sl), k ≤ 70 ∧ ix = .int .i64 k ∧ (∃ a c, gv = .slice a (n i + k) c) ∧ (⟨i, gv, n i + k⟩ : Sl) ∈ G ∧ (∀ r ∈ FF, r ∈ G) ∧ Fam w wq base n S (.slice (some ⟨lb, 0, none⟩) NN lc) NN V G ∧ wq.ownsRow w.heap.size 22 1 u5 (3 * i) ((List.range (3 * i)).map M)) (fun _ ix _ => 70 - (intOf ix).toNat)
        case atStart => exact ⟨0, FF, by omega, rfl, ⟨va, vc, rfl⟩, hmz, fun r hr => hr, hFy, hmvy⟩
        case round =>
          obtain ⟨k, G, hk, rfl, ⟨a, c, rfl⟩, hmem, hsub, hG, hmq⟩ := hrel
          by_cases hkl : k < 70
          · go_wp2_with fail
            refine (tail_any i 1 _ (by omega) (by decide) (by decide)).mono ?_
            rintro e w7 ⟨tg7, tc7, rfl, ht7, hb7⟩
            have hG7 := hG.below hb7
            have hmq7 := (Ch.ofBelow (S := none_) hb7).owns hmq (fun _ _ => id)
            have hbase7 : base ≤ w7.heap.size := Nat.le_trans (Nat.le_trans hbase hG.ch.size) hb7.size
            have hnw7 : ∀ j, j < 1 → w7.cell? ((⟨tg7, 0, none⟩ : Addr).add j) = some (.int .u8 ((251 + i % 5 : Nat) : Int)) := fun j hj => by rw [Addr.add_lit, Nat.zero_add]; exact ht7 j hj
            clear ht7 hb7 hG hmq
            go_wp2_with (at_builtin; refine append_fam rfl (.tmp 64) (.tmp 66) rfl hG7 i (n i + k) 1 (.slice a (n i + k) c) hmem (by omega) (by have := hn i; omega) hbase7 rfl ⟨tg7, 0, none⟩ tc7 rfl hnw7 ?_)
            intro v8 w8 hG8 hc8
            have hmq8 := hc8.owns hmq7 (apart3 hmq7 (hG7.rows _ hmem) (by decide))
            have hsh8 := owns_shape (hG8.rows _ (List.mem_cons_self))
            have hsh8' : ∃ a c, v8 = .slice a (n i + k + 1) c := hsh8
            obtain ⟨a8, c8, rfl⟩ := hsh8'
            clear hc8 hmq7 hG7 hsh8 hnw7
            go_wp2
            go_roundw
            case rel => exact ⟨k + 1, _, by omega, by go_num, ⟨_, _, rfl⟩, List.mem_cons_self, fun r hr => List.mem_cons_of_mem _ (hsub r hr), hG8, hmq8⟩
            case measure => simp [intOf]; omega
          · obtain rfl : k = 70 := by omega
            have hmo : (wr.alloc (.cells #[.slice xax (n i + 1) xcx, .slice xay (n i + 2) xcy, .slice a (n i + 70) c] 22)).ownsRow w.heap.size 22 1 u5 (3 * i) ((List.range (3 * i)).map M) := hmq.alloc _
            have hGa := hG.below ((Below.refl _ _).alloc (Nat.le_refl _) (.cells #[.slice xax (n i + 1) xcx, .slice xay (n i + 2) xcy, .slice a (n i + 70) c] 22))
            have hwsz := hG.ch.size
            go_wp2_with (at_builtin; refine wpList_append_own _ rfl (.tmp 68) (.tmp 72) 36 rfl w.heap.size 22 j0 (.slice none 0 0) 1 24 Try.underlying36 gi gz0 gz1 gz2 rfl (by decide) _ _ _ rfl hmo ⟨wr.heap.size, 0, none⟩ 3 3 [.slice xax (n i + 1) xcx, .slice xay (n i + 2) xcy, .slice a (n i + 70) c] rfl rfl (cells3' _ _ _ _ _) ?c2 ?c3 ?c4 ?c5 ?_)
            case c2 =>
              intro u hu
              simp only [List.mem_cons, List.not_mem_nil, or_false] at hu
              rcases hu with rfl | rfl | rfl <;> rfl
            case c3 => unfold maxLen; omega
            case c4 => omega
            case c5 => simp; omega
            intro v9 w9 ho9 hg9 _
            have hG9 := hGa.more hmo (fun q hq e => by have h1 := (hmo.lt q hq).1; simp [Value.ownBlock] at e; omega) hg9
            rw [upd3_row] at ho9
            have hM9 := hM.next (G := G) (a := .slice xax (n i + 1) xcx) (b := .slice xay (n i + 2) xcy) (c := .slice a (n i + 70) c) (fun r hr => hsub r (by rw [HFF.out]; simp [hr])) (hsub _ (by rw [HFF.out]; simp)) (hsub _ (by rw [HFF.out]; simp)) hmem
            clear hmo hGa hg9 hG hmq hM hsub hmem
            go_wp2
            go_roundw
            case rel => exact ⟨i + 1, G, _, by omega, by go_num, ho9, hG9, hM9⟩
            case measure => simp [intOf]; omega
      · obtain rfl : i = NN := by omega
        go_wp2
        go_ret
        have e := HNN.out
        subst e
        exact ⟨_, F, M, rfl, hmv, hF, hM⟩
end Go.Proofs.Ytcgfdhmegagjdaa.Fm
