/-
  Ref3a Ref3b Ref3c Ref3d Ref3e Ref3f Ref3g Ref3h Ref3i Ref3j Ref3k, one behind the other.
-/
import Derived.Test.YthknkfggpdhdbaaK3c
import Derived.Laws.Tables
import Derived.Laws.ResultCell
import Derived.Test.YthknkfggpdhdbaaK3a
namespace Go.Proofs.Ythknkfggpdhdbaa
open Go.RowKit

/-- a buffer of it -/
structure RB where
  pl : Nat
  since : Nat
  n : Nat
  a : Option Addr
  c : Nat
  d : List Nat
def RB.cells (x : RB) : List Value := [.int .i64 x.pl, .int .i64 x.since, .int .i64 x.n, .slice x.a x.d.length x.c]
structure RB.ok (w : World) (x : RB) : Prop where
  seg : Seg .u8 w x.a (toI x.d)
  h256 : ∀ y ∈ x.d, y < 256
  lt : x.pl ≤ 5 ∧ x.since ≤ 4611686018427387904 ∧ x.n ≤ 65535 ∧ x.d.length ≤ 65535
abbrev Bufs (w : World) (al : Option Addr) (L : List RB) : Prop := ListG 4 RB.cells (RB.ok w) w al L
def rpCells (rx tx size : Nat) (al : Option Addr) (n cl now : Nat) : Array Value := #[.int .i64 rx, .int .i64 tx, .int .i64 size, .slice al n cl, .int .i64 now]
theorem Bufs.old {w w' : World} {al : Option Addr} {L : List RB} (h : Bufs w al L) (hb : Below w.heap.size w w') : Bufs w' al L := by
  rcases h with h | ⟨b, off, ha, hlt, hc⟩
  · exact .inl h
  · refine .inr ⟨b, off, ha, by have := hb.size; omega, fun i o ho => ⟨⟨(hc i o ho).1.seg.old hb, (hc i o ho).1.h256, (hc i o ho).1.lt⟩, fun j hj => ?_⟩⟩
    rw [hb.cell (p := ⟨b, off + i * 4 + j, none⟩) hlt]
    exact (hc i o ho).2 j hj
/-- the cells of one -/
theorem Bufs.at {w : World} {al : Option Addr} {L : List RB} (h : Bufs w al L) (i : Nat) (hi : i < L.length) : ∃ g off, al = some ⟨g, off, none⟩ ∧ g < w.heap.size ∧ RB.ok w L[i] ∧ w.cell? ⟨g, off + i * 4, none⟩ = some (.int .i64 (L[i].pl : Int)) ∧ w.cell? ⟨g, off + i * 4 + 1, none⟩ = some (.int .i64 (L[i].since : Int)) ∧ w.cell? ⟨g, off + i * 4 + 2, none⟩ = some (.int .i64 (L[i].n : Int)) ∧ w.cell? ⟨g, off + i * 4 + 3, none⟩ = some (.slice L[i].a L[i].d.length L[i].c) := by
  obtain ⟨ok, g, off, ha, hlt, hc⟩ := ListG.at h i L[i] (by simp [hi])
  exact ⟨g, off, ha, hlt, ok, hc 0 (by decide), hc 1 (by decide), hc 2 (by decide), hc 3 (by decide)⟩
/-- how many of the first k are at a place -/
def rcnt (L : List RB) (pc : Nat) : Nat → Nat
  | 0 => 0
  | k + 1 => rcnt L pc k + if (L[k]?.map RB.pl) = some pc then 1 else 0
theorem rcnt_le (L : List RB) (pc : Nat) : ∀ k, rcnt L pc k ≤ k
  | 0 => Nat.le_refl _
  | k + 1 => by have := rcnt_le L pc k; rw [rcnt]; split <;> omega
set_option maxRecDepth 100000 in
set_option maxHeartbeats 1600000 in
theorem count_any (w : World) (rx tx size : Nat) (al : Option Addr) (cl now : Nat) (L : List RB) (h : Bufs w al L) (hL : L.length ≤ 8192) (pc : Nat) :
    Calls Try.prog 61 #[.agg (rpCells rx tx size al L.length cl now), .int .i64 pc] w fun e w' => e = .returned (.int .i64 (rcnt L pc L.length : Nat)) ∧ Below w.heap.size w w' := by
  obtain ⟨W, hW⟩ : ∃ W, W = w.alloc (.cells (rpCells rx tx size al L.length cl now) 26) := ⟨_, rfl⟩
  have hb1 : Below w.heap.size w W := by rw [hW]; exact (Below.refl _ _).alloc (Nat.le_refl _) _
  have hc : ∀ j, W.cell? ⟨w.heap.size, j, none⟩ = (rpCells rx tx size al L.length cl now)[j]? := fun j => by rw [hW, World.cell?_alloc_at _ _ _ _ rfl]
  have c3 : W.cell? ⟨w.heap.size, 3, none⟩ = some (.slice al L.length cl) := by rw [hc]; rfl
  have hB := h.old hb1
  obtain ⟨C, hC⟩ : ∃ C, C = rpCells rx tx size al L.length cl now := ⟨_, rfl⟩
  rw [← hC] at hW ⊢
  have HW : Hid (w.alloc (.cells C 26) = W) := hW.symm
  obtain ⟨O, hO⟩ : ∃ O, O = w.heap.size := ⟨_, rfl⟩
  rw [← hO] at c3
  have HO : Hid (w.heap.size = O) := hO.symm
  obtain ⟨N, hN⟩ : ∃ N, N = L.length := ⟨_, rfl⟩
  have HN : Hid (L.length = N) := hN.symm
  rw [← hN] at c3 hL ⊢
  clear hW hC hO hc h hN
  go_enter Try.func61, Try.ntmps61
  go_upto_region 1 with fail
  rw [HW.out, HO.out]
  go_wp2
  go_loop [5, 6] (fun cn ix => ∃ k : Nat, k ≤ N ∧ cn = .int .i64 (rcnt L pc k : Nat) ∧ ix = .int .i64 k) (fun _ ix => N - (intOf ix).toNat)
  case atStart => exact ⟨0, Nat.zero_le _, rfl, rfl⟩
  case round =>
    obtain ⟨k, hk, rfl, rfl⟩ := hrel
    by_cases hlt : k < N
    · have hkL : k < L.length := by rw [HN.out]; exact hlt
      obtain ⟨g, off, rfl, _, _, d0, _, _, _⟩ := hB.at k hkL
      have hcl := rcnt_le L pc k
      have hs : rcnt L pc (k + 1) = rcnt L pc k + if (L[k]?.map RB.pl) = some pc then 1 else 0 := rfl
      rw [List.getElem?_eq_getElem hkL] at hs
      simp only [Option.map_some, Option.some.injEq] at hs
      obtain ⟨x, hx⟩ : ∃ x, x = L[k].pl := ⟨_, rfl⟩
      rw [← hx] at d0 hs
      obtain ⟨T, hT⟩ : ∃ T, T = rcnt L pc k := ⟨_, rfl⟩
      rw [← hT] at hs hcl ⊢
      have HS : Hid _ := hs
      clear hs hT hx
      by_cases e : x = pc
      · have eb : ((x : Int) == (pc : Int)) = true := by rw [beq_iff_eq]; omega
        have wT : IntKind.i64.wrap ((T : Int) + 1) = (T : Int) + 1 := i64_small _ (by omega) (by omega)
        have HS2 : Hid (rcnt L pc (k + 1) = T + 1) := by have := HS.out; rw [if_pos e] at this; exact this
        clear HS e
        go_wp2
        go_round
        case rel => exact ⟨k + 1, by omega, by rw [HS2.out]; rfl, by go_num⟩
        case measure => simp [intOf]; omega
      · have eb : ((x : Int) == (pc : Int)) = false := by rw [beq_eq_false_iff_ne]; omega
        have HS2 : Hid (rcnt L pc (k + 1) = T) := by have := HS.out; rw [if_neg e] at this; exact this
        clear HS e
        go_wp2
        go_round
        case rel => exact ⟨k + 1, by omega, by rw [HS2.out], by go_num⟩
        case measure => simp [intOf]; omega
    · obtain rfl : k = N := by omega
      go_wp2
      go_ret
      exact ⟨rfl, hb1⟩
/-- the one of the first k at a place that came there first, or -1 -/
def bst (L : List RB) (pc : Nat) : Nat → Int
  | 0 => -1
  | k + 1 => if (L[k]?.map RB.pl) = some pc ∧ (bst L pc k < 0 ∨ (L[k]?.map RB.since).getD 0 < (L[(bst L pc k).toNat]?.map RB.since).getD 0) then (k : Int) else bst L pc k
theorem bst_lt (L : List RB) (pc : Nat) : ∀ k, bst L pc k < k ∧ -1 ≤ bst L pc k
  | 0 => by simp [bst]
  | k + 1 => by
    have := bst_lt L pc k
    rw [bst]
    split <;> omega
set_option maxRecDepth 100000 in
set_option maxHeartbeats 3200000 in
theorem first_any (w : World) (rx tx size : Nat) (al : Option Addr) (cl now : Nat) (L : List RB) (h : Bufs w al L) (hL : L.length ≤ 8192) (pc : Nat) :
    Calls Try.prog 76 #[.agg (rpCells rx tx size al L.length cl now), .int .i64 pc] w fun e w' => e = .returned (.int .i64 (bst L pc L.length)) ∧ Below w.heap.size w w' := by
  obtain ⟨W, hW⟩ : ∃ W, W = w.alloc (.cells (rpCells rx tx size al L.length cl now) 26) := ⟨_, rfl⟩
  have hb1 : Below w.heap.size w W := by rw [hW]; exact (Below.refl _ _).alloc (Nat.le_refl _) _
  have hc : ∀ j, W.cell? ⟨w.heap.size, j, none⟩ = (rpCells rx tx size al L.length cl now)[j]? := fun j => by rw [hW, World.cell?_alloc_at _ _ _ _ rfl]
  have c3 : W.cell? ⟨w.heap.size, 3, none⟩ = some (.slice al L.length cl) := by rw [hc]; rfl
  have hB := h.old hb1
  obtain ⟨C, hC⟩ : ∃ C, C = rpCells rx tx size al L.length cl now := ⟨_, rfl⟩
  rw [← hC] at hW ⊢
  have HW : Hid (w.alloc (.cells C 26) = W) := hW.symm
  obtain ⟨O, hO⟩ : ∃ O, O = w.heap.size := ⟨_, rfl⟩
  rw [← hO] at c3
  have HO : Hid (w.heap.size = O) := hO.symm
  obtain ⟨N, hN⟩ : ∃ N, N = L.length := ⟨_, rfl⟩
  have HN : Hid (L.length = N) := hN.symm
  rw [← hN] at c3 hL ⊢
  have HB1 : Hid (O < W.heap.size) := World.block_lt_of_cell? W _ c3
  clear hW hC hO hc h hN
  go_enter Try.func76, Try.ntmps76
  go_upto_region 1 with fail
  rw [HW.out, HO.out]
  go_wp2
  go_loopw [5, 6] (fun cn ix wq => ∃ k : Nat, k ≤ N ∧ cn = .int .i64 (bst L pc k) ∧ ix = .int .i64 k ∧ Below W.heap.size W wq) (fun _ ix _ => N - (intOf ix).toNat)
  case atStart => exact ⟨0, Nat.zero_le _, rfl, rfl, Below.refl _ _⟩
  case round =>
    obtain ⟨k, hk, rfl, rfl, hbq⟩ := hrel
    have c4 : wr.cell? ⟨O, 3, none⟩ = some (.slice al N cl) := (hbq.cell (p := ⟨O, 3, none⟩) HB1.out).trans c3
    have hBq := hB.old hbq
    by_cases hlt : k < N
    · have hkL : k < L.length := by rw [HN.out]; exact hlt
      obtain ⟨hb2, hb3⟩ := bst_lt L pc k
      obtain ⟨g, off, rfl, _, _, d0, d1, _, _⟩ := hBq.at k hkL
      have hs : bst L pc (k + 1) = if (L[k]?.map RB.pl) = some pc ∧ (bst L pc k < 0 ∨ (L[k]?.map RB.since).getD 0 < (L[(bst L pc k).toNat]?.map RB.since).getD 0) then (k : Int) else bst L pc k := rfl
      rw [List.getElem?_eq_getElem hkL] at hs
      simp only [Option.map_some, Option.some.injEq, Option.getD_some] at hs
      obtain ⟨x, hx⟩ : ∃ x, x = L[k].pl := ⟨_, rfl⟩
      obtain ⟨y, hy⟩ : ∃ y, y = L[k].since := ⟨_, rfl⟩
      rw [← hx] at d0 hs
      rw [← hy] at d1 hs
      have hdr : Below W.heap.size W wr.drew := hbq.drew
      clear hx hy hbq c3
      by_cases e : x = pc
      case neg =>
        have eb : ((x : Int) == (pc : Int)) = false := by rw [beq_eq_false_iff_ne]; omega
        have HS2 : Hid (bst L pc (k + 1) = bst L pc k) := by rw [if_neg (fun h => e h.1)] at hs; exact hs
        obtain ⟨T, hT⟩ : ∃ T, T = bst L pc k := ⟨_, rfl⟩
        rw [← hT] at HS2 hb2 hb3 ⊢
        clear hs e hT
        go_wp2
        try go_region
        all_goals
          go_wp2
          go_roundw
          case rel => exact ⟨k + 1, by omega, by rw [HS2.out], by go_num, hdr⟩
          case measure => simp [intOf]; omega
      have eb : ((x : Int) == (pc : Int)) = true := by rw [beq_iff_eq]; omega
      by_cases hneg : bst L pc k < 0
      · have hT : bst L pc k = -1 := by omega
        have HS2 : Hid (bst L pc (k + 1) = (k : Int)) := by rw [if_pos ⟨e, .inl hneg⟩] at hs; exact hs
        rw [hT]
        clear hs e hT hneg hb2 hb3
        go_wp2
        try go_region
        all_goals
          go_wp2
          go_roundw
          case rel => exact ⟨k + 1, by omega, by rw [HS2.out], by go_num, hdr⟩
          case measure => simp [intOf]; omega
      · obtain ⟨T, hT⟩ : ∃ T : Nat, bst L pc k = (T : Int) := ⟨(bst L pc k).toNat, by omega⟩
        have hTk : T < k := by omega
        have hTL : T < L.length := by omega
        obtain ⟨g2, off2, e2, _, _, _, f1, _, _⟩ := hBq.at T hTL
        obtain ⟨e3, e4, _⟩ := Addr.mk.inj (Option.some.inj e2)
        subst e3 e4
        rw [hT, Int.toNat_natCast, List.getElem?_eq_getElem hTL] at hs
        simp only [Option.map_some, Option.getD_some] at hs
        obtain ⟨z, hz⟩ : ∃ z, z = L[T].since := ⟨_, rfl⟩
        rw [← hz] at f1
        have HZ : Hid (z = L[T].since) := hz
        rw [hT]
        have g0 : decide ((T : Int) < 0) = false := decide_eq_false (by omega)
        have t0 : (0 : Int) ≤ (T : Int) := by omega
        have t1 : (T : Int) < (N : Int) := by omega
        have t2 : ((T : Int)).toNat = T := by omega
        clear hz hT e2 hneg hb2 hb3 hBq
        by_cases hyz : y < z
        · have g1 : decide (y < z) = true := decide_eq_true hyz
          have HS2 : Hid (bst L pc (k + 1) = (k : Int)) := by rw [if_pos ⟨e, .inr (by rw [← HZ.out]; exact hyz)⟩] at hs; exact hs
          clear hs e hyz
          go_wp2
          try go_region
          all_goals
            go_wp2
            go_roundw
            case rel => exact ⟨k + 1, by omega, by rw [HS2.out], by go_num, hdr⟩
            case measure => simp [intOf]; omega
        · have g1 : decide (y < z) = false := decide_eq_false hyz
          have HS2 : Hid (bst L pc (k + 1) = (T : Int)) := by rw [if_neg (fun h => h.2.elim (fun h' => by omega) (fun h' => hyz (by rw [HZ.out]; exact h')))] at hs; exact hs
          clear hs e hyz
          go_wp2
          try go_region
          all_goals
            go_wp2
            go_roundw
            case rel => exact ⟨k + 1, by omega, by rw [HS2.out], by go_num, hdr⟩
            case measure => simp [intOf]; omega
    · obtain rfl : k = N := by omega
      have hfin : Below w.heap.size w wr := hb1.trans (hbq.mono hb1.size)
      clear hBq hbq hB
      go_wp2
      go_ret
      exact ⟨rfl, hfin⟩
end Go.Proofs.Ythknkfggpdhdbaa
namespace Go.Proofs.Ythknkfggpdhdbaa
open Go.RowKit

theorem flat4 : ∀ (L : List RB) (i r : Nat), r < 4 → (L.flatMap RB.cells)[i * 4 + r]? = (L[i]?).bind (fun x => (RB.cells x)[r]?)
  | [], i, r, _ => by simp
  | x :: L, 0, r, hr => by
    rw [List.flatMap_cons, List.getElem?_append_left (by simp [RB.cells]; omega)]
    simp
  | x :: L, i + 1, r, hr => by
    rw [List.flatMap_cons, List.getElem?_append_right (by simp [RB.cells]; omega)]
    have e : (i + 1) * 4 + r - (RB.cells x).length = i * 4 + r := by simp [RB.cells]; omega
    rw [e, flat4 L i r hr]
    simp
theorem flat_len (L : List RB) : (L.flatMap RB.cells).length = L.length * 4 := by
  induction L with
  | nil => rfl
  | cons x L ih => rw [List.flatMap_cons, List.length_append, ih]; simp [RB.cells]; omega
theorem flat_cells {w : World} {g off : Nat} {L : List RB} (hc : ∀ (i : Nat) (o : RB), L[i]? = some o → RB.ok w o ∧ ∀ j, j < 4 → w.cell? ⟨g, off + i * 4 + j, none⟩ = (RB.cells o)[j]?) : ∀ j u, (L.flatMap RB.cells)[j]? = some u → w.cell? ((⟨g, off, none⟩ : Addr).add j) = some u := by
  intro j u hu
  have e : j = (j / 4) * 4 + j % 4 := by omega
  rw [e, flat4 L (j / 4) (j % 4) (by omega)] at hu
  cases ho : L[j / 4]? with
  | none => rw [ho] at hu; simp at hu
  | some o =>
    rw [ho] at hu
    simp only [Option.bind_some] at hu
    rw [Addr.add_lit, ← hu, ← (hc (j / 4) o ho).2 (j % 4) (by omega)]
    congr 2
    omega
theorem Try.infoBufR : (Try.prog.info? 108).map (fun i => (i.zero, i.size, i.bytes)) = some (some (.agg #[.int .i64 0, .int .i64 0, .int .i64 0, .slice none 0 0]), 4, 48) := by kernel_rfl
theorem Try.sizePortR : (Try.prog.info? 26).map (·.size) = some 5 := by kernel_rfl
/-- the cells of a row behind four writes -/
theorem set4 (w : World) (g i : Nat) (x : RB) (L : List RB) (hi : i < L.length) (hc : ∀ (k : Nat) (o : RB), L[k]? = some o → ∀ j, j < 4 → w.cell? ⟨g, k * 4 + j, none⟩ = (RB.cells o)[j]?) :
    ∀ (k : Nat) (o : RB), (L.set i x)[k]? = some o → ∀ j, j < 4 → ((((w.setCell ⟨g, i * 4, none⟩ (.int .i64 x.pl)).setCell ⟨g, i * 4 + 1, none⟩ (.int .i64 x.since)).setCell ⟨g, i * 4 + 2, none⟩ (.int .i64 x.n)).setCell ⟨g, i * 4 + 3, none⟩ (.slice x.a x.d.length x.c)).cell? ⟨g, k * 4 + j, none⟩ = (RB.cells o)[j]? := by
  intro k o ho j hj
  obtain ⟨y, hy⟩ : ∃ y, L[i]? = some y := ⟨L[i], by simp [hi]⟩
  have b0 := hc i y hy 0 (by decide)
  have b1 := hc i y hy 1 (by decide)
  have b2 := hc i y hy 2 (by decide)
  have b3 := hc i y hy 3 (by decide)
  by_cases e : k = i
  · subst e
    rw [List.getElem?_set_self hi] at ho
    have := Option.some.inj ho
    subst this
    have hj4 : j = 0 ∨ j = 1 ∨ j = 2 ∨ j = 3 := by omega
    rcases hj4 with rfl | rfl | rfl | rfl
    · rw [Nat.add_zero, gb_other _ _ _ _ _ (by omega), gb_other _ _ _ _ _ (by omega), gb_other _ _ _ _ _ (by omega)]
      exact World.cell?_setCell_same _ _ _ b0
    · rw [gb_other _ _ _ _ _ (by omega), gb_other _ _ _ _ _ (by omega)]
      exact World.cell?_setCell_same _ _ _ ((gb_other _ _ _ _ _ (by omega)).trans b1)
    · rw [gb_other _ _ _ _ _ (by omega)]
      exact World.cell?_setCell_same _ _ _ ((gb_other _ _ _ _ _ (by omega)).trans ((gb_other _ _ _ _ _ (by omega)).trans b2))
    · exact World.cell?_setCell_same _ _ _ ((gb_other _ _ _ _ _ (by omega)).trans ((gb_other _ _ _ _ _ (by omega)).trans ((gb_other _ _ _ _ _ (by omega)).trans b3)))
  · rw [List.getElem?_set_ne (fun h => e h.symm)] at ho
    rw [gb_other _ _ _ _ _ (by omega), gb_other _ _ _ _ _ (by omega), gb_other _ _ _ _ _ (by omega), gb_other _ _ _ _ _ (by omega)]
    exact hc k o ho j hj
set_option maxRecDepth 100000 in
set_option maxHeartbeats 3200000 in
theorem put_any (w : World) (rx tx size : Nat) (al : Option Addr) (cl now : Nat) (L : List RB) (h : Bufs w al L) (hL : L.length ≤ 8192) (i : Nat) (hi : i < L.length) (x : RB) (hx : RB.ok w x) :
    Calls Try.prog 78 #[.agg (rpCells rx tx size al L.length cl now), .int .i64 i, .agg #[.int .i64 x.pl, .int .i64 x.since, .int .i64 x.n, .slice x.a x.d.length x.c]] w fun e w' => ∃ g cl', e = .returned (.agg (rpCells rx tx size (some ⟨g, 0, none⟩) L.length cl' now)) ∧ Bufs w' (some ⟨g, 0, none⟩) (L.set i x) ∧ w.heap.size ≤ g ∧ Below w.heap.size w w' := by
  obtain ⟨i0, hii, hz0, hz1, hz2⟩ := info_parts Try.infoBufR
  rcases h with h0 | ⟨b, off, rfl, hbl, hcs⟩
  · rw [h0] at hi; simp at hi
  have HX : Hid _ := hx
  have HCS : Hid _ := hcs
  obtain ⟨N, hN⟩ : ∃ N, N = L.length := ⟨_, rfl⟩
  have HN : Hid (L.length = N) := hN.symm
  have HI : Hid (i < L.length) := hi
  rw [← hN] at hL hi ⊢
  have hbb : Below w.heap.size w (((w.alloc (.cells (rpCells rx tx size (some ⟨b, off, none⟩) N cl now) 26)).alloc (.cells #[.int .i64 x.pl, .int .i64 x.since, .int .i64 x.n, .slice x.a x.d.length x.c] 108)).alloc (.cells #[.int .i64 0, .int .i64 0, .int .i64 0, .slice none 0 0, .int .i64 0] 26)) := (((Below.refl _ _).alloc (Nat.le_refl _) _).alloc (by simp) _).alloc (by simp; omega) _
  obtain ⟨W, hW⟩ : ∃ W, W = ((w.alloc (.cells (rpCells rx tx size (some ⟨b, off, none⟩) N cl now) 26)).alloc (.cells #[.int .i64 x.pl, .int .i64 x.since, .int .i64 x.n, .slice x.a x.d.length x.c] 108)).alloc (.cells #[.int .i64 0, .int .i64 0, .int .i64 0, .slice none 0 0, .int .i64 0] 26) := ⟨_, rfl⟩
  obtain ⟨O, hO⟩ : ∃ O, O = w.heap.size := ⟨_, rfl⟩
  have hWs : W.heap.size = O + 3 := by rw [hW, hO]; simp
  have gO : W.heap[O]? = some (.cells (rpCells rx tx size (some ⟨b, off, none⟩) N cl now) 26) := by
    rw [hW, hO, heap_alloc_old _ _ (by simp; omega), heap_alloc_old _ _ (by simp)]
    exact heap_alloc_new _ _
  have gX : W.heap[O + 1]? = some (.cells #[.int .i64 x.pl, .int .i64 x.since, .int .i64 x.n, .slice x.a x.d.length x.c] 108) := by
    rw [hW, hO, heap_alloc_old _ _ (by simp)]
    have := heap_alloc_new (w.alloc (.cells (rpCells rx tx size (some ⟨b, off, none⟩) N cl now) 26)) (.cells #[.int .i64 x.pl, .int .i64 x.since, .int .i64 x.n, .slice x.a x.d.length x.c] 108)
    rwa [World.size_alloc] at this
  have gR : W.heap[O + 1 + 1]? = some (.cells #[.int .i64 0, .int .i64 0, .int .i64 0, .slice none 0 0, .int .i64 0] 26) := by
    rw [hW, hO]
    have := heap_alloc_new ((w.alloc (.cells (rpCells rx tx size (some ⟨b, off, none⟩) N cl now) 26)).alloc (.cells #[.int .i64 x.pl, .int .i64 x.since, .int .i64 x.n, .slice x.a x.d.length x.c] 108)) (.cells #[.int .i64 0, .int .i64 0, .int .i64 0, .slice none 0 0, .int .i64 0] 26)
    simpa [World.size_alloc] using this
  have hnews : ∀ j u, (L.flatMap RB.cells)[j]? = some u → W.cell? ((⟨b, off, none⟩ : Addr).add j) = some u := flat_cells (fun i o ho => ⟨⟨(hcs i o ho).1.seg.old (by rw [hW]; exact hbb), (hcs i o ho).1.h256, (hcs i o ho).1.lt⟩, fun j hj => by
    have e := hbb.cell (p := ⟨b, off + i * 4 + j, none⟩) hbl
    rw [← hW] at e
    rw [e]; exact (hcs i o ho).2 j hj⟩)
  rw [← hW] at hbb
  have cO : W.cell? ⟨O, 3, none⟩ = some (.slice (some ⟨b, off, none⟩) N cl) := by simp [World.cell?, gO, rpCells]
  have HW : Hid _ := hW.symm
  have HO : Hid (O = w.heap.size) := hO
  obtain ⟨CP, hCP⟩ : ∃ CP, CP = rpCells rx tx size (some ⟨b, off, none⟩) N cl now := ⟨_, rfl⟩
  rw [← hCP] at HW ⊢
  have HCP : Hid _ := hCP
  clear hW hN hcs hx hCP
  go_enter Try.func78, Try.ntmps78
  go_upto_region 1 with fail
  rw [HW.out, ← hO]
  have h1c : ∀ u ∈ L.flatMap RB.cells, u.oneCell' = true := by
    intro u hu
    obtain ⟨o, _, ho⟩ := List.mem_flatMap.1 hu
    simp [RB.cells] at ho
    rcases ho with rfl | rfl | rfl | rfl <;> rfl
  clear hO
  go_wp2_with (first | (at_builtin; refine wpList_append_own _ rfl (.tmp 8) (.tmp 10) 24 rfl W.heap.size 108 i0 (.agg #[.int .i64 0, .int .i64 0, .int .i64 0, .slice none 0 0]) 4 48 Try.underlying24 hii hz0 hz1 hz2 rfl (by decide) _ _ _ rfl (World.ownsRow_nil _ _ _ _) ⟨b, off, none⟩ N cl (L.flatMap RB.cells) rfl (by rw [flat_len, HN.out]) hnews h1c (by unfold maxLen; omega) (by omega) (Nat.le_refl _) ?_))
  intro v1 w1 ho1 hg1 _
  have ho2 : w1.ownsRow (O + 3) 108 4 v1 N (L.flatMap RB.cells) := by simpa [hWs] using ho1
  have hb1 : Below W.heap.size W w1 := (Below.refl _ _).grown hg1 (Nat.le_refl _) (by intro k hk; simp [Value.ownBlock] at hk)
  rcases ho2.2 with ⟨_, h0⟩ | ⟨g, cp, cur, rfl, hgW, _⟩
  · omega
  have hgl : g < w1.heap.size := (ho2.lt g rfl).2
  have kO : w1.heap[O]? = _ := (hb1.block O (by omega)).trans gO
  have kX : w1.heap[O + 1]? = _ := (hb1.block (O + 1) (by omega)).trans gX
  have kR : w1.heap[O + 1 + 1]? = _ := (hb1.block (O + 1 + 1) (by omega)).trans gR
  have hcell : ∀ (k : Nat) (o : RB), L[k]? = some o → ∀ j, j < 4 → w1.cell? ⟨g, k * 4 + j, none⟩ = (RB.cells o)[j]? := fun k o hk j hj => by
    have hkl : k < L.length := (List.getElem?_eq_some_iff.1 hk).1
    have := HN.out
    rw [ho2.cellAt (k * 4 + j) (by omega), flat4 L k j hj, hk]
    rfl
  have HSET : Hid _ := set4 w1 g i x L HI.out hcell
  obtain ⟨y, hy⟩ : ∃ y, L[i]? = some y := ⟨L[i]'HI.out, by simp [HI.out]⟩
  have b0 : w1.cell? ⟨g, i * 4, none⟩ = some (.int .i64 y.pl) := hcell i y hy 0 (by decide)
  have b1 : w1.cell? ⟨g, i * 4 + 1, none⟩ = some (.int .i64 y.since) := hcell i y hy 1 (by decide)
  have b2 : w1.cell? ⟨g, i * 4 + 2, none⟩ = some (.int .i64 y.n) := hcell i y hy 2 (by decide)
  have b3 : w1.cell? ⟨g, i * 4 + 3, none⟩ = some (.slice y.a y.d.length y.c) := hcell i y hy 3 (by decide)
  have f0 := ho2.frozenAt (i * 4)
  have f1 := ho2.frozenAt (i * 4 + 1)
  have f2 := ho2.frozenAt (i * 4 + 2)
  have f3 := ho2.frozenAt (i * 4 + 3)
  have z0 : w1.cell? ⟨O + 1, 0, none⟩ = some (.int .i64 x.pl) := by simp [World.cell?, kX]
  have z1 : w1.cell? ⟨O + 1, 1, none⟩ = some (.int .i64 x.since) := by simp [World.cell?, kX]
  have z2 : w1.cell? ⟨O + 1, 2, none⟩ = some (.int .i64 x.n) := by simp [World.cell?, kX]
  have z3 : w1.cell? ⟨O + 1, 3, none⟩ = some (.slice x.a x.d.length x.c) := by simp [World.cell?, kX]
  have hi0 : (0 : Int) ≤ (i : Int) := by omega
  have hi1 : (i : Int) < (N : Int) := by omega
  have hi2 : ((i : Int)).toNat = i := by omega
  clear ho1 hg1 gO gX gR cO hy hcell
  go_upto_region 4 with fail
  obtain ⟨w2, hw2⟩ : ∃ w2, w2 = (((w1.setCell ⟨g, i * 4, none⟩ (.int .i64 x.pl)).setCell ⟨g, i * 4 + 1, none⟩ (.int .i64 x.since)).setCell ⟨g, i * 4 + 2, none⟩ (.int .i64 x.n)).setCell ⟨g, i * 4 + 3, none⟩ (.slice x.a x.d.length x.c) := ⟨_, rfl⟩
  have k2 : Ch (fun q => q = g) w1 w2 := by rw [hw2]; exact ((((Ch.refl (fun q => q = g) w1).set ⟨g, i * 4, none⟩ _ rfl).set ⟨g, i * 4 + 1, none⟩ _ rfl).set ⟨g, i * 4 + 2, none⟩ _ rfl).set ⟨g, i * 4 + 3, none⟩ _ rfl
  have HROW : Hid (∀ (k : Nat) (o : RB), (L.set i x)[k]? = some o → ∀ j, j < 4 → w2.cell? ⟨g, k * 4 + j, none⟩ = (RB.cells o)[j]?) := by rw [hw2]; exact HSET.out
  rw [← hw2]
  have mO : w2.heap[O]? = some (.cells (rpCells rx tx size (some ⟨b, off, none⟩) N cl now) 26) := (k2.block O (by omega) (by omega)).trans kO
  have mR : w2.heap[O + 1 + 1]? = some (.cells #[.int .i64 0, .int .i64 0, .int .i64 0, .slice none 0 0, .int .i64 0] 26) := (k2.block (O + 1 + 1) (by omega) (by omega)).trans kR
  clear hw2 kO kX kR HSET b0 b1 b2 b3 f0 f1 f2 f3 z0 z1 z2 z3
  have r0 : w2.cell? ⟨O, 0, none⟩ = some (.int .i64 rx) := by simp [World.cell?, mO, rpCells]
  have r1 : w2.cell? ⟨O, 1, none⟩ = some (.int .i64 tx) := by simp [World.cell?, mO, rpCells]
  have r2 : w2.cell? ⟨O, 2, none⟩ = some (.int .i64 size) := by simp [World.cell?, mO, rpCells]
  have r3 : w2.cell? ⟨O, 3, none⟩ = some (.slice (some ⟨b, off, none⟩) N cl) := by simp [World.cell?, mO, rpCells]
  have r4 : w2.cell? ⟨O, 4, none⟩ = some (.int .i64 now) := by simp [World.cell?, mO, rpCells]
  have fO : w2.frozen? ⟨O, 3, none⟩ = false := by simp [World.frozen?, mO]
  have k3 : Ch (fun q => q = O) w2 (w2.setCell ⟨O, 3, none⟩ (.slice (some ⟨g, 0, none⟩) N cp)) := (Ch.refl _ w2).set _ _ rfl
  go_upto_region 5 with fail
  obtain ⟨w3, hw3⟩ : ∃ w3, w3 = w2.setCell ⟨O, 3, none⟩ (.slice (some ⟨g, 0, none⟩) N cp) := ⟨_, rfl⟩
  have s0 : w3.cell? ⟨O, 0, none⟩ = some (.int .i64 rx) := by rw [hw3, gb_other _ _ _ _ _ (by decide)]; exact r0
  have s1 : w3.cell? ⟨O, 1, none⟩ = some (.int .i64 tx) := by rw [hw3, gb_other _ _ _ _ _ (by decide)]; exact r1
  have s2 : w3.cell? ⟨O, 2, none⟩ = some (.int .i64 size) := by rw [hw3, gb_other _ _ _ _ _ (by decide)]; exact r2
  have s3 : w3.cell? ⟨O, 3, none⟩ = some (.slice (some ⟨g, 0, none⟩) N cp) := by rw [hw3]; exact World.cell?_setCell_same _ _ _ r3
  have s4 : w3.cell? ⟨O, 4, none⟩ = some (.int .i64 now) := by rw [hw3, gb_other _ _ _ _ _ (by decide)]; exact r4
  rw [← hw3] at k3 ⊢
  have hw2s := k2.size
  have nR : w3.heap[O + 1 + 1]? = some (.cells #[.int .i64 0, .int .i64 0, .int .i64 0, .slice none 0 0, .int .i64 0] 26) := (k3.block (O + 1 + 1) (by omega) (by omega)).trans mR
  clear hw3 r0 r1 r2 r3 r4 fO mO mR
  obtain ⟨R, hR⟩ : ∃ R, R = O + 1 + 1 := ⟨_, rfl⟩
  rw [← hR] at nR ⊢
  have HR : Hid (R = O + 1 + 1) := hR
  clear hR
  have fz : ∀ j, w3.frozen? ⟨R, j, none⟩ = false := fun j => by simp [World.frozen?, nR]
  have t0 : w3.cell? ⟨R, 0, none⟩ = some (.int .i64 0) := by simp [World.cell?, nR]
  have t1 : w3.cell? ⟨R, 1, none⟩ = some (.int .i64 0) := by simp [World.cell?, nR]
  have t2 : w3.cell? ⟨R, 2, none⟩ = some (.int .i64 0) := by simp [World.cell?, nR]
  have t3 : w3.cell? ⟨R, 3, none⟩ = some (.slice none 0 0) := by simp [World.cell?, nR]
  have t4 : w3.cell? ⟨R, 4, none⟩ = some (.int .i64 0) := by simp [World.cell?, nR]
  have q0 := fz 0
  have q1 := fz 1
  have q2 := fz 2
  have q3 := fz 3
  have q4 := fz 4
  have G0 := heap_setCell_same w3 R 0 _ _ (.int .i64 (rx : Int)) nR
  have G1 := heap_setCell_same _ R 1 _ _ (.int .i64 (tx : Int)) G0
  have G2 := heap_setCell_same _ R 2 _ _ (.int .i64 (size : Int)) G1
  have G3 := heap_setCell_same _ R 3 _ _ (.slice (some ⟨g, 0, none⟩) N cp) G2
  have G4 := heap_setCell_same _ R 4 _ _ (.int .i64 (now : Int)) G3
  have k4 : Ch (fun q => q = R) w3 (((((w3.setCell ⟨R, 0, none⟩ (.int .i64 (rx : Int))).setCell ⟨R, 1, none⟩ (.int .i64 (tx : Int))).setCell ⟨R, 2, none⟩ (.int .i64 (size : Int))).setCell ⟨R, 3, none⟩ (.slice (some ⟨g, 0, none⟩) N cp)).setCell ⟨R, 4, none⟩ (.int .i64 (now : Int))) := (((((Ch.refl (fun q => q = R) w3).set ⟨R, 0, none⟩ _ rfl).set ⟨R, 1, none⟩ _ rfl).set ⟨R, 2, none⟩ _ rfl).set ⟨R, 3, none⟩ _ rfl).set ⟨R, 4, none⟩ _ rfl
  obtain ⟨w5, hw5⟩ : ∃ w5, w5 = ((((w3.setCell ⟨R, 0, none⟩ (.int .i64 (rx : Int))).setCell ⟨R, 1, none⟩ (.int .i64 (tx : Int))).setCell ⟨R, 2, none⟩ (.int .i64 (size : Int))).setCell ⟨R, 3, none⟩ (.slice (some ⟨g, 0, none⟩) N cp)).setCell ⟨R, 4, none⟩ (.int .i64 (now : Int)) := ⟨_, rfl⟩
  rw [← hw5] at k4 G4
  have HW5 : Hid _ := hw5.symm
  have hO' := HO.out
  have hR' := HR.out
  have hws := hbb.size
  have hs1 := hb1.size
  have hs2 := k2.size
  have hs3 := k3.size
  have hs4 := k4.size
  have hbA : Below w.heap.size w w5 := ((hbb.trans (hb1.mono hws)).trans (k2.below (fun q e => by omega) (by omega))).trans ((k3.below (fun q e => by omega) (by omega)).trans (k4.below (fun q e => by omega) (by omega)))
  have HB : Hid (Below w.heap.size w w5) := hbA
  have HG : Hid _ := G4
  have hrow5 : ∀ (k : Nat) (o : RB), (L.set i x)[k]? = some o → RB.ok w5 o ∧ ∀ j, j < 4 → w5.cell? ⟨g, 0 + k * 4 + j, none⟩ = (RB.cells o)[j]? := by
    intro k o ho
    refine ⟨?_, fun j hj => ?_⟩
    · by_cases e : k = i
      · subst e
        rw [List.getElem?_set_self HI.out] at ho
        have := Option.some.inj ho
        subst this
        exact ⟨HX.out.seg.old hbA, HX.out.h256, HX.out.lt⟩
      · rw [List.getElem?_set_ne (fun h => e h.symm)] at ho
        have h9 := (HCS.out k o ho).1
        exact ⟨h9.seg.old hbA, h9.h256, h9.lt⟩
    · rw [Nat.zero_add]
      have h9 := HROW.out k o ho j hj
      have hgR : ¬ g = R := by omega
      have hgO : ¬ g = O := by omega
      cases hv : (RB.cells o)[j]? with
      | none => simp [RB.cells] at hv; omega
      | some u =>
        rw [hv] at h9
        exact k4.cell (k3.cell h9 hgO) hgR
  have HF : Hid (Bufs w5 (some ⟨g, 0, none⟩) (L.set i x)) := .inr ⟨g, 0, rfl, by omega, hrow5⟩
  clear hrow5 hs1 hs2 hs3 hs4 hbA hw5
  clear G0 G1 G2 G3 G4 k2 k3 k4 nR fz HROW HCS HX ho2 hb1 hbb hws hO' hR'
  go_wp2
  rw [HW5.out]
  (try simp only [Exit.inBlock, Exit.then])
  refine bodyPost_ret (v := .agg (rpCells rx tx size (some ⟨g, 0, none⟩) N cp now)) ?_ rfl ?_
  · exact results_cell_row rfl _ _ R 26 _ _ _ rfl HG.out Try.underlying26 rfl Try.sizePortR
  exact ⟨g, cp, rfl, HF.out, by have := HO.out; omega, HB.out⟩
end Go.Proofs.Ythknkfggpdhdbaa
namespace Go.Proofs.Ythknkfggpdhdbaa
open Go.RowKit

set_option maxRecDepth 100000 in
set_option maxHeartbeats 3200000 in
theorem movedR_any (w : World) (rx tx size : Nat) (al : Option Addr) (cl now : Nat) (L : List RB) (h : Bufs w al L) (hL : L.length ≤ 8192) (hnow : now ≤ 4611686018427387904) (i : Nat) (hi : i < L.length) (pc : Nat) (hpc : pc ≤ 5) :
    Calls Try.prog 79 #[.agg (rpCells rx tx size al L.length cl now), .int .i64 i, .int .i64 pc] w fun e w' => ∃ g cl', e = .returned (.agg (rpCells rx tx size (some ⟨g, 0, none⟩) L.length cl' (now + 1))) ∧ Bufs w' (some ⟨g, 0, none⟩) (L.set i { L[i] with pl := pc, since := now }) ∧ w.heap.size ≤ g ∧ Below w.heap.size w w' := by
  obtain ⟨y, hy⟩ : ∃ y, y = L[i] := ⟨_, rfl⟩
  rw [← hy]
  obtain ⟨b, off, hal, hbl, okY, d0, d1, d2, d3⟩ := h.at i hi
  subst hal
  rw [← hy] at okY d0 d1 d2 d3
  have HI : Hid (i < L.length) := hi
  obtain ⟨N, hN⟩ : ∃ N, N = L.length := ⟨_, rfl⟩
  have HN : Hid (L.length = N) := hN.symm
  rw [← hN] at hL hi ⊢
  have hbb : Below w.heap.size w ((w.alloc (.cells (rpCells rx tx size (some ⟨b, off, none⟩) N cl now) 26)).alloc (.cells #[.int .i64 0, .int .i64 0, .int .i64 0, .slice none 0 0, .int .i64 0] 26)) := ((Below.refl _ _).alloc (Nat.le_refl _) _).alloc (by simp) _
  obtain ⟨W, hW⟩ : ∃ W, W = (w.alloc (.cells (rpCells rx tx size (some ⟨b, off, none⟩) N cl now) 26)).alloc (.cells #[.int .i64 0, .int .i64 0, .int .i64 0, .slice none 0 0, .int .i64 0] 26) := ⟨_, rfl⟩
  obtain ⟨O, hO⟩ : ∃ O, O = w.heap.size := ⟨_, rfl⟩
  have hWs : Hid (W.heap.size = O + 2) := by rw [hW, hO]; show _ = _; simp
  have gO : W.heap[O]? = some (.cells (rpCells rx tx size (some ⟨b, off, none⟩) N cl now) 26) := by
    rw [hW, hO, heap_alloc_old _ _ (by simp)]
    exact heap_alloc_new _ _
  have gR : W.heap[O + 1]? = some (.cells #[.int .i64 0, .int .i64 0, .int .i64 0, .slice none 0 0, .int .i64 0] 26) := by
    rw [hW, hO]
    have := heap_alloc_new (w.alloc (.cells (rpCells rx tx size (some ⟨b, off, none⟩) N cl now) 26)) (.cells #[.int .i64 0, .int .i64 0, .int .i64 0, .slice none 0 0, .int .i64 0] 26)
    rwa [World.size_alloc] at this
  rw [← hW] at hbb
  have c3 : W.cell? ⟨O, 3, none⟩ = some (.slice (some ⟨b, off, none⟩) N cl) := by simp [World.cell?, gO, rpCells]
  have c4 : W.cell? ⟨O, 4, none⟩ = some (.int .i64 now) := by simp [World.cell?, gO, rpCells]
  have v0 := (hbb.cell (p := ⟨b, off + i * 4, none⟩) hbl).trans d0
  have v1 := (hbb.cell (p := ⟨b, off + i * 4 + 1, none⟩) hbl).trans d1
  have v2 := (hbb.cell (p := ⟨b, off + i * 4 + 2, none⟩) hbl).trans d2
  have v3 := (hbb.cell (p := ⟨b, off + i * 4 + 3, none⟩) hbl).trans d3
  have HW : Hid _ := hW.symm
  have HO : Hid (O = w.heap.size) := hO
  have HB0 : Hid _ := h
  obtain ⟨CP, hCP⟩ : ∃ CP, CP = rpCells rx tx size (some ⟨b, off, none⟩) N cl now := ⟨_, rfl⟩
  rw [← hCP] at HW ⊢
  have HCP : Hid _ := hCP
  have hi0 : (0 : Int) ≤ (i : Int) := by omega
  have hi1 : (i : Int) < (N : Int) := by omega
  have hi2 : ((i : Int)).toNat = i := by omega
  have HOK : Hid _ := okY
  have HY : Hid (y = L[i]'HI.out) := hy
  clear hW hN hCP h d0 d1 d2 d3 okY hy
  go_enter Try.func79, Try.ntmps79
  go_upto_region 1 with fail
  rw [HW.out, ← hO]
  clear hO
  have hOW : O < W.heap.size := World.block_lt_of_cell? W ⟨O, 3, none⟩ c3
  have ol : ∀ (X : Obj) (j : Nat), (W.alloc X).cell? ⟨O, j, none⟩ = W.cell? ⟨O, j, none⟩ := fun X j => ((Below.refl W.heap.size W).alloc (Nat.le_refl _) X).cell (p := ⟨O, j, none⟩) hOW
  have e4 : ∀ X, (W.alloc X).cell? ⟨O, 4, none⟩ = some (.int .i64 now) := fun X => (ol X 4).trans c4
  go_upto_region 4 with fail
  obtain ⟨Bd, hBd⟩ : ∃ Bd, Bd = W.heap.size := ⟨_, rfl⟩
  obtain ⟨W2, hW2⟩ : ∃ W2, W2 = W.alloc (.cells #[.int .i64 pc, .int .i64 now, .int .i64 y.n, .slice y.a y.d.length y.c] 108) := ⟨_, rfl⟩
  have hb2 : Below W.heap.size W W2 := by rw [hW2]; exact (Below.refl _ _).alloc (Nat.le_refl _) _
  have u : ∀ j, W2.cell? ⟨Bd, j, none⟩ = (#[.int .i64 pc, .int .i64 now, .int .i64 y.n, .slice y.a y.d.length y.c] : Array Value)[j]? := fun j => by rw [hW2, World.cell?_alloc_at _ _ _ _ hBd]
  have u0 : W2.cell? ⟨Bd, 0, none⟩ = some (.int .i64 pc) := by rw [u]; rfl
  have u1 : W2.cell? ⟨Bd, 1, none⟩ = some (.int .i64 now) := by rw [u]; rfl
  have u2 : W2.cell? ⟨Bd, 2, none⟩ = some (.int .i64 y.n) := by rw [u]; rfl
  have u3 : W2.cell? ⟨Bd, 3, none⟩ = some (.slice y.a y.d.length y.c) := by rw [u]; rfl
  have kO : W2.heap[O]? = some (.cells (rpCells rx tx size (some ⟨b, off, none⟩) N cl now) 26) := (hb2.block O hOW).trans gO
  have kR : W2.heap[O + 1]? = some (.cells #[.int .i64 0, .int .i64 0, .int .i64 0, .slice none 0 0, .int .i64 0] 26) := (hb2.block (O + 1) (by have := hWs.out; omega)).trans gR
  have o0 : W2.cell? ⟨O, 0, none⟩ = some (.int .i64 rx) := by simp [World.cell?, kO, rpCells]
  have o1 : W2.cell? ⟨O, 1, none⟩ = some (.int .i64 tx) := by simp [World.cell?, kO, rpCells]
  have o2 : W2.cell? ⟨O, 2, none⟩ = some (.int .i64 size) := by simp [World.cell?, kO, rpCells]
  have o3 : W2.cell? ⟨O, 3, none⟩ = some (.slice (some ⟨b, off, none⟩) N cl) := by simp [World.cell?, kO, rpCells]
  have o4 : W2.cell? ⟨O, 4, none⟩ = some (.int .i64 now) := by simp [World.cell?, kO, rpCells]
  have hbW2 : Below w.heap.size w W2 := hbb.trans (hb2.mono hbb.size)
  rw [← hW2, ← hBd]
  have B2 : Bufs W2 (some ⟨b, off, none⟩) L := Bufs.old HB0.out hbW2
  have Q1 : Hid _ := put_any W2 rx tx size (some ⟨b, off, none⟩) cl now L B2 (by rw [HN.out]; exact hL) i HI.out ⟨pc, now, y.n, y.a, y.c, y.d⟩ ⟨HOK.out.seg.old hbW2, HOK.out.h256, ⟨hpc, hnow, HOK.out.lt.2.2.1, HOK.out.lt.2.2.2⟩⟩
  rw [HN.out] at Q1
  have hB2s : Hid (W2.heap.size = O + 3) := by
    show _ = _
    rw [hW2]
    have := hWs.out
    simp; omega
  clear hW2 hBd u e4 ol c3 c4 v0 v1 v2 v3 gO gR hb2 hbb B2
  go_wp2_with fail
  refine Calls.mono Q1.out ?_
  rintro e w3 ⟨g, cp, rfl, hBf, hgs, hb3⟩
  have hO2 : O < W2.heap.size := World.block_lt_of_cell? W2 ⟨O, 0, none⟩ o0
  have mO : w3.heap[O]? = some (.cells (rpCells rx tx size (some ⟨b, off, none⟩) N cl now) 26) := (hb3.block O hO2).trans kO
  have mR : w3.heap[O + 1]? = some (.cells #[.int .i64 0, .int .i64 0, .int .i64 0, .slice none 0 0, .int .i64 0] 26) := (hb3.block (O + 1) (by have := hB2s.out; omega)).trans kR
  have fO : ∀ j, w3.frozen? ⟨O, j, none⟩ = false := fun j => by simp [World.frozen?, mO]
  have f0 := fO 0
  have f1 := fO 1
  have f2 := fO 2
  have f3 := fO 3
  have f4 := fO 4
  have n0 : w3.cell? ⟨O, 0, none⟩ = some (.int .i64 rx) := by simp [World.cell?, mO, rpCells]
  have n1 : w3.cell? ⟨O, 1, none⟩ = some (.int .i64 tx) := by simp [World.cell?, mO, rpCells]
  have n2 : w3.cell? ⟨O, 2, none⟩ = some (.int .i64 size) := by simp [World.cell?, mO, rpCells]
  have n3 : w3.cell? ⟨O, 3, none⟩ = some (.slice (some ⟨b, off, none⟩) N cl) := by simp [World.cell?, mO, rpCells]
  have n4 : w3.cell? ⟨O, 4, none⟩ = some (.int .i64 now) := by simp [World.cell?, mO, rpCells]
  have HBF : Hid _ := hBf
  have HB3 : Hid _ := hb3
  unfold rpCells
  clear Q1 kO kR o0 o1 o2 o3 o4 u0 u1 u2 u3 hBf hb3 fO
  go_upto_region 5 with fail
  have G0 := heap_setCell_same w3 O 0 _ _ (.int .i64 (rx : Int)) mO
  have G1 := heap_setCell_same _ O 1 _ _ (.int .i64 (tx : Int)) G0
  have G2 := heap_setCell_same _ O 2 _ _ (.int .i64 (size : Int)) G1
  have G3 := heap_setCell_same _ O 3 _ _ (.slice (some ⟨g, 0, none⟩) N cp) G2
  have G4 := heap_setCell_same _ O 4 _ _ (.int .i64 (now : Int)) G3
  have k4 : Ch (fun q => q = O) w3 (((((w3.setCell ⟨O, 0, none⟩ (.int .i64 (rx : Int))).setCell ⟨O, 1, none⟩ (.int .i64 (tx : Int))).setCell ⟨O, 2, none⟩ (.int .i64 (size : Int))).setCell ⟨O, 3, none⟩ (.slice (some ⟨g, 0, none⟩) N cp)).setCell ⟨O, 4, none⟩ (.int .i64 (now : Int))) := (((((Ch.refl (fun q => q = O) w3).set ⟨O, 0, none⟩ _ rfl).set ⟨O, 1, none⟩ _ rfl).set ⟨O, 2, none⟩ _ rfl).set ⟨O, 3, none⟩ _ rfl).set ⟨O, 4, none⟩ _ rfl
  obtain ⟨w4, hw4⟩ : ∃ w4, w4 = ((((w3.setCell ⟨O, 0, none⟩ (.int .i64 (rx : Int))).setCell ⟨O, 1, none⟩ (.int .i64 (tx : Int))).setCell ⟨O, 2, none⟩ (.int .i64 (size : Int))).setCell ⟨O, 3, none⟩ (.slice (some ⟨g, 0, none⟩) N cp)).setCell ⟨O, 4, none⟩ (.int .i64 (now : Int)) := ⟨_, rfl⟩
  rw [← hw4] at k4 G4 ⊢
  have mO4 : w4.heap[O]? = some (.cells #[.int .i64 rx, .int .i64 tx, .int .i64 size, .slice (some ⟨g, 0, none⟩) N cp, .int .i64 now] 26) := by simpa [rpCells] using G4
  have p4 : w4.cell? ⟨O, 4, none⟩ = some (.int .i64 now) := by simp [World.cell?, mO4]
  have q4 : w4.frozen? ⟨O, 4, none⟩ = false := by simp [World.frozen?, mO4]
  have G5 := heap_setCell_same w4 O 4 _ _ (.int .i64 ((now : Int) + 1)) mO4
  have k5 : Ch (fun q => q = O) w4 (w4.setCell ⟨O, 4, none⟩ (.int .i64 ((now : Int) + 1))) := (Ch.refl _ w4).set _ _ rfl
  have wn : IntKind.i64.wrap ((now : Int) + 1) = (now : Int) + 1 := by simp [IntKind.wrap, IntKind.bits, IntKind.signed]; omega
  clear G0 G1 G2 G3 G4 hw4 n0 n1 n2 n3 n4 f0 f1 f2 f3 f4
  go_upto_region 6 with fail
  obtain ⟨w5, hw5⟩ : ∃ w5, w5 = w4.setCell ⟨O, 4, none⟩ (.int .i64 ((now : Int) + 1)) := ⟨_, rfl⟩
  rw [← hw5] at k5 G5 ⊢
  have mO5 : w5.heap[O]? = some (.cells #[.int .i64 rx, .int .i64 tx, .int .i64 size, .slice (some ⟨g, 0, none⟩) N cp, .int .i64 ((now : Int) + 1)] 26) := by simpa using G5
  have s0 : w5.cell? ⟨O, 0, none⟩ = some (.int .i64 rx) := by simp [World.cell?, mO5]
  have s1 : w5.cell? ⟨O, 1, none⟩ = some (.int .i64 tx) := by simp [World.cell?, mO5]
  have s2 : w5.cell? ⟨O, 2, none⟩ = some (.int .i64 size) := by simp [World.cell?, mO5]
  have s3 : w5.cell? ⟨O, 3, none⟩ = some (.slice (some ⟨g, 0, none⟩) N cp) := by simp [World.cell?, mO5]
  have s4 : w5.cell? ⟨O, 4, none⟩ = some (.int .i64 ((now : Int) + 1)) := by simp [World.cell?, mO5]
  have hz2 := hB2s.out
  have hb3 := HB3.out
  have hs3 := hb3.size
  have hs4 := k4.size
  have hs5 := k5.size
  have nR : w5.heap[O + 1]? = some (.cells #[.int .i64 0, .int .i64 0, .int .i64 0, .slice none 0 0, .int .i64 0] 26) := (k5.block (O + 1) (by omega) (by omega)).trans ((k4.block (O + 1) (by omega) (by omega)).trans mR)
  clear hw5 G5 mO4 mO5 p4 q4 mO mR wn
  obtain ⟨R, hR⟩ : ∃ R, R = O + 1 := ⟨_, rfl⟩
  rw [← hR] at nR ⊢
  have fz : ∀ j, w5.frozen? ⟨R, j, none⟩ = false := fun j => by simp [World.frozen?, nR]
  have t0 : w5.cell? ⟨R, 0, none⟩ = some (.int .i64 0) := by simp [World.cell?, nR]
  have t1 : w5.cell? ⟨R, 1, none⟩ = some (.int .i64 0) := by simp [World.cell?, nR]
  have t2 : w5.cell? ⟨R, 2, none⟩ = some (.int .i64 0) := by simp [World.cell?, nR]
  have t3 : w5.cell? ⟨R, 3, none⟩ = some (.slice none 0 0) := by simp [World.cell?, nR]
  have t4 : w5.cell? ⟨R, 4, none⟩ = some (.int .i64 0) := by simp [World.cell?, nR]
  have q0 := fz 0
  have q1 := fz 1
  have q2 := fz 2
  have q3 := fz 3
  have q4 := fz 4
  have G0 := heap_setCell_same w5 R 0 _ _ (.int .i64 (rx : Int)) nR
  have G1 := heap_setCell_same _ R 1 _ _ (.int .i64 (tx : Int)) G0
  have G2 := heap_setCell_same _ R 2 _ _ (.int .i64 (size : Int)) G1
  have G3 := heap_setCell_same _ R 3 _ _ (.slice (some ⟨g, 0, none⟩) N cp) G2
  have G4 := heap_setCell_same _ R 4 _ _ (.int .i64 ((now : Int) + 1)) G3
  have k6 : Ch (fun q => q = R) w5 (((((w5.setCell ⟨R, 0, none⟩ (.int .i64 (rx : Int))).setCell ⟨R, 1, none⟩ (.int .i64 (tx : Int))).setCell ⟨R, 2, none⟩ (.int .i64 (size : Int))).setCell ⟨R, 3, none⟩ (.slice (some ⟨g, 0, none⟩) N cp)).setCell ⟨R, 4, none⟩ (.int .i64 ((now : Int) + 1))) := (((((Ch.refl (fun q => q = R) w5).set ⟨R, 0, none⟩ _ rfl).set ⟨R, 1, none⟩ _ rfl).set ⟨R, 2, none⟩ _ rfl).set ⟨R, 3, none⟩ _ rfl).set ⟨R, 4, none⟩ _ rfl
  obtain ⟨w6, hw6⟩ : ∃ w6, w6 = ((((w5.setCell ⟨R, 0, none⟩ (.int .i64 (rx : Int))).setCell ⟨R, 1, none⟩ (.int .i64 (tx : Int))).setCell ⟨R, 2, none⟩ (.int .i64 (size : Int))).setCell ⟨R, 3, none⟩ (.slice (some ⟨g, 0, none⟩) N cp)).setCell ⟨R, 4, none⟩ (.int .i64 ((now : Int) + 1)) := ⟨_, rfl⟩
  rw [← hw6] at k6 G4
  have HW6 : Hid _ := hw6.symm
  have hO' := HO.out
  have kall : Ch (fun q => q = O ∨ q = R) w3 w6 := ((k4.mono (fun _ _ e => .inl e)).trans (k5.mono (fun _ _ e => Or.inl (b := _ = R) e)) (fun _ _ e => e)).trans (k6.mono (fun _ _ e => Or.inr (a := _ = O) e)) (fun _ _ e => e)
  have hs6 := k6.size
  have hbA : Below w.heap.size w w6 := (hbW2.trans (hb3.mono (by omega))).trans (kall.below (fun q e => by rcases e with e | e <;> omega) (by omega))
  have HB : Hid (Below w.heap.size w w6) := hbA
  have HG : Hid (w6.heap[R]? = some (.cells #[.int .i64 rx, .int .i64 tx, .int .i64 size, .slice (some ⟨g, 0, none⟩) N cp, .int .i64 ((now : Int) + 1)] 26)) := by show _ = _; simpa using G4
  have HF : Hid (Bufs w6 (some ⟨g, 0, none⟩) (L.set i ⟨pc, now, y.n, y.a, y.c, y.d⟩)) := by
    rcases HBF.out with h0 | ⟨g', o', eg, hgl', hcc⟩
    · exact .inl h0
    · obtain ⟨e5, e6, _⟩ := Addr.mk.inj (Option.some.inj eg)
      subst e5 e6
      refine .inr ⟨g, 0, rfl, by omega, fun k o ho => ⟨?_, fun j hj => ?_⟩⟩
      · by_cases e : k = i
        · subst e
          rw [List.getElem?_set_self HI.out] at ho
          have := Option.some.inj ho
          subst this
          exact ⟨HOK.out.seg.old hbA, HOK.out.h256, ⟨hpc, hnow, HOK.out.lt.2.2.1, HOK.out.lt.2.2.2⟩⟩
        · rw [List.getElem?_set_ne (fun h => e h.symm)] at ho
          have hkl : k < L.length := (List.getElem?_eq_some_iff.1 ho).1
          obtain ⟨ok9, _⟩ := ListG.at HB0.out k o ho
          exact ⟨ok9.seg.old hbA, ok9.h256, ok9.lt⟩
      · have h9 := (hcc k o ho).2 j hj
        cases hv : (RB.cells o)[j]? with
        | none => simp [RB.cells] at hv; omega
        | some u =>
          rw [hv] at h9
          exact kall.cell h9 (fun e => by rcases e with e | e <;> simp only at e <;> omega)
  have HGL : Hid (w.heap.size ≤ g) := by show _ ≤ _; omega
  clear hR G0 G1 G2 G3 G4 k4 k5 k6 kall nR fz HBF HB3 hb3 hbA hw6 hs3 hs4 hs5 hs6 hz2 hgs hbW2 hO'
  go_wp2
  rw [HW6.out]
  (try simp only [Exit.inBlock, Exit.then])
  refine bodyPost_ret (v := .agg #[.int .i64 rx, .int .i64 tx, .int .i64 size, .slice (some ⟨g, 0, none⟩) N cp, .int .i64 ((now : Int) + 1)]) ?_ rfl ?_
  · exact results_cell_row rfl _ _ R 26 _ _ _ rfl HG.out Try.underlying26 rfl Try.sizePortR
  exact ⟨g, cp, rfl, HF.out, HGL.out, HB.out⟩
end Go.Proofs.Ythknkfggpdhdbaa
namespace Go.Proofs.Ythknkfggpdhdbaa
open Go.RowKit

/-- a port's value -/
structure RV where
  rx : Nat
  tx : Nat
  size : Nat
  al : Option Addr
  cl : Nat
  now : Nat
  L : List RB
def RV.cells (r : RV) : Array Value := rpCells r.rx r.tx r.size r.al r.L.length r.cl r.now
structure RV.ok (w : World) (r : RV) : Prop where
  bufs : Bufs w r.al r.L
  len : r.L.length ≤ 8192
  now : r.now ≤ 4611686018427387904
theorem RV.ok.old {w w' : World} {r : RV} (h : RV.ok w r) (hb : Below w.heap.size w w') : RV.ok w' r := ⟨h.bufs.old hb, h.len, h.now⟩
/-- the blocks of its buffers' bytes -/
def RV.dblk (r : RV) (q : Nat) : Prop := ∃ x ∈ r.L, x.d ≠ [] ∧ ∃ a, x.a = some a ∧ a.block = q
theorem RV.ok.ch {S : Nat → Prop} {w w' : World} {r : RV} (h : RV.ok w r) (k : Ch S w w') (h1 : ∀ a, r.al = some a → ¬ S a.block) (h2 : ∀ q, r.dblk q → ¬ S q) : RV.ok w' r := by
  refine ⟨?_, h.len, h.now⟩
  rcases h.bufs with h0 | ⟨b, off, ha, hlt, hc⟩
  · exact .inl h0
  · have hb := h1 _ ha
    refine .inr ⟨b, off, ha, Nat.lt_of_lt_of_le hlt k.size, fun i o ho => ⟨⟨k.seg (hc i o ho).1.seg (fun x hx e => h2 _ ⟨o, List.mem_of_getElem? ho, fun h0 => hx (by rw [h0]; rfl), x, e, rfl⟩), (hc i o ho).1.h256, (hc i o ho).1.lt⟩, fun j hj => ?_⟩⟩
    rw [World.cell?_of_block (k.block b hlt hb)]
    exact (hc i o ho).2 j hj
theorem RV.ok.dlt {w : World} {r : RV} (h : RV.ok w r) (q : Nat) (hq : r.dblk q) : q < w.heap.size := by
  obtain ⟨x, hx, hd, a, ha, rfl⟩ := hq
  obtain ⟨i, hi, rfl⟩ := List.getElem_of_mem hx
  obtain ⟨ok, _⟩ := ListG.at h.bufs i r.L[i] (by simp [hi])
  rcases ok.seg.lt with h0 | ⟨b, off, e, hb⟩
  · rw [toI_len] at h0
    exact absurd (List.eq_nil_of_length_eq_zero h0) hd
  · rw [ha] at e
    have := Option.some.inj e
    subst this
    exact hb
/-- it lies in a block of its own -/
def RpAt (w : World) (O : Nat) (r : RV) : Prop := w.heap[O]? = some (.cells r.cells 26 (0, 0))
theorem RpAt.lt {w : World} {O : Nat} {r : RV} (h : RpAt w O r) : O < w.heap.size := (Array.getElem?_eq_some_iff.1 h).1
theorem RpAt.ch {S : Nat → Prop} {w w' : World} {O : Nat} {r : RV} (h : RpAt w O r) (k : Ch S w w') (hS : ¬ S O) : RpAt w' O r := (k.block O h.lt hS).trans h
theorem RpAt.below {w w' : World} {O : Nat} {r : RV} (h : RpAt w O r) (k : Below w.heap.size w w') : RpAt w' O r := (k.block O h.lt).trans h
theorem RpAt.c0 {w : World} {O : Nat} {r : RV} (h : RpAt w O r) : w.cell? ⟨O, 0, none⟩ = some (.int .i64 r.rx) := by unfold RpAt at h; simp [World.cell?, h, RV.cells, rpCells]
theorem RpAt.c1 {w : World} {O : Nat} {r : RV} (h : RpAt w O r) : w.cell? ⟨O, 1, none⟩ = some (.int .i64 r.tx) := by unfold RpAt at h; simp [World.cell?, h, RV.cells, rpCells]
theorem RpAt.c2 {w : World} {O : Nat} {r : RV} (h : RpAt w O r) : w.cell? ⟨O, 2, none⟩ = some (.int .i64 r.size) := by unfold RpAt at h; simp [World.cell?, h, RV.cells, rpCells]
theorem RpAt.c3 {w : World} {O : Nat} {r : RV} (h : RpAt w O r) : w.cell? ⟨O, 3, none⟩ = some (.slice r.al r.L.length r.cl) := by unfold RpAt at h; simp [World.cell?, h, RV.cells, rpCells]
theorem RpAt.c4 {w : World} {O : Nat} {r : RV} (h : RpAt w O r) : w.cell? ⟨O, 4, none⟩ = some (.int .i64 r.now) := by unfold RpAt at h; simp [World.cell?, h, RV.cells, rpCells]
theorem rpAt_new (w : World) (r : RV) : RpAt (w.alloc (.cells r.cells 26)) w.heap.size r := heap_alloc_new _ _
def rz : RV := ⟨0, 0, 0, none, 0, 0, []⟩
theorem wpList_load_rp {ops : Array Oper} {rest : List Oper} {o : Oper} {a : Act} {w : World} {Q : Exit → Act → World → Prop} (x : Operand) (ho : o.op = .load 26 x) (O : Nat) (r : RV) (hx : a.eval x = .pointer (some ⟨O, 0, none⟩)) (hb : RpAt w O r)
    (hw : Region.wanted o (yielded ops a.tmps) = true) (h : wpList Try.prog ops Q rest (a.put o.dst (.agg r.cells)) w) : wpList Try.prog ops Q (o :: rest) a w := by
  refine wpList_step fun K hK => ?_
  rw [if_pos hw]
  exact wp_load_row 26 x ho O hx _ _ _ _ hb Try.underlying26 rfl Try.sizePortR (hK _ _ h)
theorem wpList_store_rp {ops : Array Oper} {rest : List Oper} {o : Oper} {a : Act} {w : World} {Q : Exit → Act → World → Prop} (x y : Operand) (ho : o.op = .store 26 x y) (hd : o.dst = none) (O : Nat) (r r' : RV) (hx : a.eval x = .pointer (some ⟨O, 0, none⟩)) (hy : a.eval y = .agg r'.cells) (hb : RpAt w O r)
    (hw : Region.wanted o (yielded ops a.tmps) = true) (h : ∀ w', RpAt w' O r' → Ch (fun q => q = O) w w' → wpList Try.prog ops Q rest a w') : wpList Try.prog ops Q (o :: rest) a w := by
  refine wpList_step fun K hK => ?_
  rw [if_pos hw]
  refine wp_store_row 26 x y ho O r'.cells hx hy _ r.cells hb Try.sizePortR rfl (by simp [RV.cells, rpCells, Value.oneCell']) (hK _ _ ?_)
  rw [hd]
  refine h _ (setRow_heap w O r.cells r'.cells _ _ hb) ⟨rfl, rfl, rfl, ?_, ?_⟩
  · simp [World.setRow]
  · intro k hk hne
    simp only [World.setRow]
    rw [Array.getElem?_modify, if_neg (fun e => hne e.symm)]
theorem results_rp_tmp {fn : Func} {p u : Tmp} (h : fn.results = #[.cell p 26, .tmp u]) (tmps : Array Value) (w : World) (O : Nat) (r : RV) (hp : tmps.getD p undef = .pointer (some ⟨O, 0, none⟩)) (hb : RpAt w O r) :
    (results fn tmps).run Try.prog w = .ok (.tuple #[.agg r.cells, tmps.getD u undef]) w := by
  rw [results_cell_tmp h tmps Try.prog w, hp]
  simp [asAddr, run_loadVar_row w O _ 26 r.cells _ _ hb Try.underlying26 rfl Try.sizePortR, Result.andThen]
theorem out_any (v lo hi : Int) (w : World) : Calls Try.prog 60 #[.int .i64 v, .int .i64 lo, .int .i64 hi] w fun e w' => e = .returned (.bool (decide (v < lo ∨ hi < v))) ∧ w = w' := by
  by_cases h1 : v < lo
  · have d1 : decide (v < lo) = true := decide_eq_true h1
    rw [decide_eq_true (.inl h1)]
    go_enter Try.func60, Try.ntmps60
    go_wp2
    go_ret
    exact ⟨by simp, rfl⟩
  · have d1 : decide (v < lo) = false := decide_eq_false h1
    by_cases h2 : hi < v
    · have d2 : decide (hi < v) = true := decide_eq_true h2
      rw [decide_eq_true (.inr h2)]
      go_enter Try.func60, Try.ntmps60
      go_wp2
      go_ret
      exact ⟨by simp, rfl⟩
    · have d2 : decide (hi < v) = false := decide_eq_false h2
      rw [decide_eq_false (by omega)]
      go_enter Try.func60, Try.ntmps60
      go_wp2
      go_ret
      exact ⟨by simp, rfl⟩
/-- what Buffer answers -/
def bE (L : List RB) (i : Int) : Int := if i < 0 ∨ (L.length : Int) - 1 < i then 1 else if (L[i.toNat]?.map RB.pl) = some 4 then 0 else 34
set_option maxRecDepth 100000 in
set_option maxHeartbeats 800000 in
theorem bufferR_any (w : World) (r : RV) (h : RV.ok w r) (i : Int) :
    Calls Try.prog 68 #[.agg r.cells, .int .i64 i] w fun e w' => e = .returned (.int .i64 (bE r.L i)) ∧ Below w.heap.size w w' := by
  have hO := rpAt_new w r
  have hb1 : Below w.heap.size w (w.alloc (.cells r.cells 26)) := (Below.refl _ _).alloc (Nat.le_refl _) _
  have hB := h.bufs.old hb1
  have hlen := h.len
  have c3 := hO.c3
  obtain ⟨W, hW⟩ : ∃ W, W = w.alloc (.cells r.cells 26) := ⟨_, rfl⟩
  obtain ⟨O, hO'⟩ : ∃ O, O = w.heap.size := ⟨_, rfl⟩
  rw [← hW, ← hO'] at c3
  rw [← hW] at hB hb1
  obtain ⟨C, hC⟩ : ∃ C, C = r.cells := ⟨_, rfl⟩
  rw [← hC] at hW ⊢
  have HW : Hid (w.alloc (.cells C 26) = W) := hW.symm
  have HO : Hid (w.heap.size = O) := hO'.symm
  obtain ⟨N, hN⟩ : ∃ N, N = r.L.length := ⟨_, rfl⟩
  have HN : Hid (r.L.length = N) := hN.symm
  rw [← hN] at c3 hlen
  have w1 : IntKind.i64.wrap ((N : Int) - 1) = (N : Int) - 1 := i64_small _ (by omega) (by omega)
  have Q1 : Hid _ := out_any i 0 ((N : Int) - 1) W
  obtain ⟨E, hE⟩ : ∃ E, E = bE r.L i := ⟨_, rfl⟩
  rw [← hE]
  have HE : Hid (E = bE r.L i) := hE
  clear hW hC hO' hO hN hE h
  by_cases hr : i < 0 ∨ (N : Int) - 1 < i
  · rw [decide_eq_true hr] at Q1
    have HE1 : Hid (E = 1) := by rw [HE.out]; show bE r.L i = 1; unfold bE; rw [HN.out, if_pos hr]
    clear hr HE
    go_enter Try.func68, Try.ntmps68
    go_upto_region 1 with fail
    rw [HW.out, HO.out]
    go_wp2_with fail
    refine Calls.mono Q1.out ?_
    rintro e w' ⟨rfl, rfl⟩
    go_wp2
    go_ret
    exact ⟨by rw [HE1.out]; rfl, hb1⟩
  · rw [decide_eq_false hr] at Q1
    obtain ⟨k, rfl⟩ : ∃ k : Nat, i = (k : Int) := ⟨i.toNat, by omega⟩
    have hk : k < r.L.length := by rw [HN.out]; omega
    obtain ⟨g, off, hal, _, _, d0, _, _, _⟩ := hB.at k hk
    rw [hal] at c3
    have hs : bE r.L (k : Int) = if r.L[k].pl = 4 then 0 else 34 := by
      unfold bE
      rw [HN.out, if_neg hr, Int.toNat_natCast, List.getElem?_eq_getElem hk]
      simp
    obtain ⟨x, hx⟩ : ∃ x, x = r.L[k].pl := ⟨_, rfl⟩
    rw [← hx] at d0 hs
    have t0 : (0 : Int) ≤ (k : Int) := by omega
    have t1 : (k : Int) < (N : Int) := by omega
    have t2 : ((k : Int)).toNat = k := by omega
    have HS : Hid (E = if x = 4 then 0 else 34) := HE.out.trans hs
    clear hs hx hr HE hal hB
    by_cases e4 : x = 4
    · have eb : ((x : Int) != 4) = false := by rw [e4]; rfl
      have HE1 : Hid (E = 0) := by have := HS.out; rw [if_pos e4] at this; exact this
      clear e4 HS
      go_enter Try.func68, Try.ntmps68
      go_upto_region 1 with fail
      rw [HW.out, HO.out]
      go_wp2_with fail
      refine Calls.mono Q1.out ?_
      rintro e w' ⟨rfl, rfl⟩
      go_wp2
      go_ret
      exact ⟨by rw [HE1.out]; rfl, hb1⟩
    · have eb : ((x : Int) != 4) = true := by rw [bne_iff_ne]; omega
      have HE1 : Hid (E = 34) := by have := HS.out; rw [if_neg e4] at this; exact this
      clear e4 HS
      go_enter Try.func68, Try.ntmps68
      go_upto_region 1 with fail
      rw [HW.out, HO.out]
      go_wp2_with fail
      refine Calls.mono Q1.out ?_
      rintro e w' ⟨rfl, rfl⟩
      go_wp2
      go_ret
      exact ⟨by rw [HE1.out]; rfl, hb1⟩
/-- a buffer goes to another place -/
def RV.mv (r : RV) (i pc g cl : Nat) : RV := { r with al := some ⟨g, 0, none⟩, cl := cl, now := r.now + 1, L := r.L.set i (match r.L[i]? with | some x => { x with pl := pc, since := r.now } | none => ⟨pc, r.now, 0, none, 0, []⟩) }
theorem mv_dblk (r : RV) (i pc g cl : Nat) (hi : i < r.L.length) (q : Nat) (h : (r.mv i pc g cl).dblk q) : r.dblk q := by
  obtain ⟨x, hx, hd, ha⟩ := h
  have hx' : x ∈ r.L.set i { r.L[i] with pl := pc, since := r.now } := by
    have e1 : (r.mv i pc g cl).L = r.L.set i { r.L[i] with pl := pc, since := r.now } := by
      unfold RV.mv
      simp only [List.getElem?_eq_getElem hi]
    rw [← e1]; exact hx
  rcases List.mem_or_eq_of_mem_set hx' with h1 | h1
  · exact ⟨x, h1, hd, ha⟩
  · subst h1
    exact ⟨r.L[i], List.getElem_mem hi, hd, ha⟩
theorem mv_any (w : World) (r : RV) (h : RV.ok w r) (hn : r.now + 1 ≤ 4611686018427387904) (i : Nat) (hi : i < r.L.length) (pc : Nat) (hpc : pc ≤ 5) :
    Calls Try.prog 79 #[.agg r.cells, .int .i64 i, .int .i64 pc] w fun e w' => ∃ g cl, e = .returned (.agg (r.mv i pc g cl).cells) ∧ RV.ok w' (r.mv i pc g cl) ∧ w.heap.size ≤ g ∧ Below w.heap.size w w' := by
  refine (movedR_any w r.rx r.tx r.size r.al r.cl r.now r.L h.bufs h.len h.now i hi pc hpc).mono ?_
  rintro e w' ⟨g, cl, rfl, hB, hg, hb⟩
  have e1 : (r.mv i pc g cl).L = r.L.set i { r.L[i] with pl := pc, since := r.now } := by
    unfold RV.mv
    simp only [List.getElem?_eq_getElem hi]
  refine ⟨g, cl, ?_, ⟨by rw [e1]; exact hB, by rw [e1, List.length_set]; exact h.len, hn⟩, hg, hb⟩
  unfold RV.cells
  rw [e1, List.length_set]
  rfl
set_option maxRecDepth 100000 in
set_option maxHeartbeats 1600000 in
theorem releaseR_any (w : World) (r : RV) (h : RV.ok w r) (hn : r.now + 1 ≤ 4611686018427387904) (i : Int) :
    Calls Try.prog 70 #[.agg r.cells, .int .i64 i] w fun e w' => ∃ r' : RV, e = .returned (.tuple #[.agg r'.cells, .int .i64 (bE r.L i)]) ∧ RV.ok w' r' ∧ Below w.heap.size w w' ∧ ((bE r.L i ≠ 0 ∧ r' = r) ∨ (bE r.L i = 0 ∧ ∃ (k g cl : Nat), i = (k : Int) ∧ w.heap.size ≤ g ∧ r' = r.mv k 1 g cl)) := by
  have hO := rpAt_new w r
  have hb1 : Below w.heap.size w (w.alloc (.cells r.cells 26)) := (Below.refl _ _).alloc (Nat.le_refl _) _
  have hR : RpAt ((w.alloc (.cells r.cells 26)).alloc (.cells rz.cells 26)) (w.heap.size + 1) rz := by have := rpAt_new (w.alloc (.cells r.cells 26)) rz; rwa [World.size_alloc] at this
  have hb2 := hb1.alloc hb1.size (.cells rz.cells 26)
  have hO2 := hO.below ((Below.refl _ _).alloc (Nat.le_refl _) (.cells rz.cells 26))
  obtain ⟨W, hW⟩ : ∃ W, W = (w.alloc (.cells r.cells 26)).alloc (.cells rz.cells 26) := ⟨_, rfl⟩
  obtain ⟨O, hO'⟩ : ∃ O, O = w.heap.size := ⟨_, rfl⟩
  rw [← hW] at hR hb2 hO2
  rw [← hO'] at hR hO2
  obtain ⟨C, hC⟩ : ∃ C, C = r.cells := ⟨_, rfl⟩
  rw [← hC] at hW ⊢
  have HW : Hid ((w.alloc (.cells C 26)).alloc (.cells #[.int .i64 0, .int .i64 0, .int .i64 0, .slice none 0 0, .int .i64 0] 26) = W) := hW.symm
  have HO : Hid (w.heap.size = O) := hO'.symm
  have hr2 := h.old hb2
  have Q1 : Hid _ := bufferR_any W r hr2 i
  have HN : Hid _ := hn
  have HH : Hid _ := h
  obtain ⟨E, hE⟩ : ∃ E, E = bE r.L i := ⟨_, rfl⟩
  rw [← hE] at Q1
  have HE : Hid (E = bE r.L i) := hE
  clear hW hC hO' hO hE h hb1 hn
  go_enter Try.func70, Try.ntmps70
  go_upto_region 1 with fail
  rw [HW.out, HO.out]
  go_wp2_with (first | (refine wpList_load_rp (.tmp 2) rfl O r rfl hO2 rfl ?_))
  refine Calls.mono Q1.out ?_
  rintro e w3 ⟨rfl, hb3⟩
  have hO3 := hO2.below hb3
  have hR3 := hR.below hb3
  have hr3 := hr2.old hb3
  have hbb := hb2.trans (hb3.mono hb2.size)
  clear Q1 hO2 hR hr2 hb3 hb2
  by_cases hz : E = 0
  · subst hz
    obtain ⟨k, rfl, hk, _⟩ : ∃ k : Nat, i = (k : Int) ∧ k < r.L.length ∧ True := by
      have h0 := HE.out
      unfold bE at h0
      split at h0
      · cases h0
      · rename_i hr
        exact ⟨i.toNat, by omega, by omega, trivial⟩
    have Q2 : Hid _ := mv_any w3 r hr3 HN.out k hk 1 (by decide)
    have HK : Hid _ := hk
    clear hk
    go_wp2_with (first | (refine wpList_load_rp (.tmp 2) rfl O r rfl hO3 rfl ?_))
    refine Calls.mono Q2.out ?_
    rintro e w4 ⟨g, cl, rfl, hr4, hg, hb4⟩
    have hR4 := hR3.below hb4
    have hbc := hbb.trans (hb4.mono hbb.size)
    have HR4 : Hid _ := hr4
    have HGL : Hid (w.heap.size ≤ g) := Nat.le_trans hbb.size hg
    have HGR : Hid (O + 1 < g) := Nat.lt_of_lt_of_le hR3.lt hg
    obtain ⟨r', hr'⟩ : ∃ r', r' = r.mv k 1 g cl := ⟨_, rfl⟩
    rw [← hr'] at HR4 ⊢
    have HR' : Hid (r' = r.mv k 1 g cl) := hr'
    clear Q2 hr4 hg hb4 hR3 hO3 hr3 hr' hbb
    go_wp2_with (first | (refine wpList_store_rp (.tmp 4) (.tmp 16) rfl rfl (O + 1) rz r' rfl rfl hR4 rfl ?_))
    intro w5 hR5 k5
    have hb5 : Below w.heap.size w w5 := hbc.trans (k5.below (fun q e => by have := HO.out; omega) hbc.size)
    have hr5 : RV.ok w5 r' := HR4.out.ch k5 (fun a ha e => by
      rw [HR'.out] at ha
      have := Option.some.inj ha
      subst this
      have e' : g = O + 1 := e
      have := HGR.out
      omega) (fun q hq e => by
      rw [HR'.out] at hq
      have h1 := HH.out.dlt q (mv_dblk r k 1 g cl HK.out q hq)
      have h2 := HO.out
      omega)
    clear k5 hR4 hbc HR4
    go_wp2
    (try simp only [Exit.inBlock, Exit.then])
    refine bodyPost_ret (results_rp_tmp rfl _ _ (O + 1) r' rfl hR5) rfl ?_
    refine ⟨r', ?_, hr5, hb5, .inr ⟨HE.out.symm, k, g, cl, rfl, HGL.out, HR'.out⟩⟩
    rw [← HE.out]
    rfl
  · have hzb : (E != 0) = true := by simpa using hz
    go_wp2_with (first | (refine wpList_load_rp (.tmp 2) rfl O r rfl hO3 rfl ?_) | (refine wpList_store_rp (.tmp 4) (.tmp 12) rfl rfl (O + 1) rz r rfl rfl hR3 rfl ?_))
    intro w5 hR5 k5
    have hb5 : Below w.heap.size w w5 := hbb.trans (k5.below (fun q e => by have := HO.out; omega) hbb.size)
    have hr5 := HH.out.old hb5
    clear k5 hR3 hbb hO3 hr3
    go_wp2
    (try simp only [Exit.inBlock, Exit.then])
    refine bodyPost_ret (results_rp_tmp rfl _ _ (O + 1) r rfl hR5) rfl ?_
    refine ⟨r, ?_, hr5, hb5, .inl ⟨by rw [← HE.out]; exact hz, rfl⟩⟩
    rw [← HE.out]
    rfl
end Go.Proofs.Ythknkfggpdhdbaa
namespace Go.Proofs.Ythknkfggpdhdbaa
open Go.RowKit

/-- the first k bytes, zeros behind those that stand there -/
def bp (d : List Nat) (k : Nat) : List Nat := (List.range k).map (fun j => d.getD j 0)
theorem bp_len (d : List Nat) (k : Nat) : (bp d k).length = k := by simp [bp]
theorem bp_succ (d : List Nat) (k : Nat) : bp d (k + 1) = bp d k ++ [d.getD k 0] := by simp [bp, List.range_succ]
theorem bp_256 (d : List Nat) (k : Nat) (h : ∀ x ∈ d, x < 256) : ∀ x ∈ bp d k, x < 256 := by
  intro x hx
  simp only [bp, List.mem_map, List.mem_range] at hx
  obtain ⟨j, _, rfl⟩ := hx
  by_cases hj : j < d.length
  · have := h d[j] (List.getElem_mem hj)
    simpa [List.getD, hj] using this
  · simp [List.getD, hj]
theorem news1 (w : World) (t : TypeId) (x : Value) : ∀ j u, ([x] : List Value)[j]? = some u → (w.alloc (.cells #[x] t)).cell? ((⟨w.heap.size, 0, none⟩ : Addr).add j) = some u := by
  intro j u hu
  rw [Addr.add_lit, Nat.zero_add, World.cell?_alloc_at _ _ _ _ rfl]
  simpa using hu
set_option maxRecDepth 100000 in
set_option maxHeartbeats 1600000 in
theorem bytesR_any (w : World) (r : RV) (h : RV.ok w r) (i : Nat) (hi : i < r.L.length) (n : Nat) (hn : n ≤ 65535) :
    Calls Try.prog 75 #[.agg r.cells, .int .i64 i, .int .i64 n] w fun e w' => ∃ v, e = .returned v ∧ w'.ownsRow w.heap.size 5 1 v n ((toI (bp r.L[i].d n)).map (Value.int .u8)) ∧ Below w.heap.size w w' := by
  obtain ⟨i0, hii, hz0, hz1, hz2⟩ := info_parts Try.infoByte
  have hO := rpAt_new w r
  have hb1 : Below w.heap.size w (w.alloc (.cells r.cells 26)) := (Below.refl _ _).alloc (Nat.le_refl _) _
  have hB := h.bufs.old hb1
  have hlen := h.len
  have c3 := hO.c3
  obtain ⟨W, hW⟩ : ∃ W, W = w.alloc (.cells r.cells 26) := ⟨_, rfl⟩
  obtain ⟨O, hO'⟩ : ∃ O, O = w.heap.size := ⟨_, rfl⟩
  rw [← hW, ← hO'] at c3
  rw [← hW] at hB hb1
  obtain ⟨C, hC⟩ : ∃ C, C = r.cells := ⟨_, rfl⟩
  rw [← hC] at hW ⊢
  have HW : Hid (w.alloc (.cells C 26) = W) := hW.symm
  have HO : Hid (w.heap.size = O) := hO'.symm
  obtain ⟨N, hN⟩ : ∃ N, N = r.L.length := ⟨_, rfl⟩
  obtain ⟨g, off, hal, hgl, okx, _, _, _, d3⟩ := hB.at i hi
  rw [hal, ← hN] at c3
  rw [← hN] at hlen
  have hOl : O < W.heap.size := World.block_lt_of_cell? W _ c3
  obtain ⟨x, hx⟩ : ∃ x, x = r.L[i] := ⟨_, rfl⟩
  rw [← hx] at d3 okx ⊢
  have hiN : i < N := by rw [hN]; exact hi
  have t0 : (0 : Int) ≤ (i : Int) := by omega
  have t1 : (i : Int) < (N : Int) := by omega
  have t2 : ((i : Int)).toNat = i := by omega
  have hbs := hb1.size
  have hdl := okx.lt.2.2.2
  have HSEG : Hid _ := okx.seg
  have HB1 : Hid _ := hb1
  obtain ⟨xl, hxl⟩ : ∃ xl, xl = x.d.length := ⟨_, rfl⟩
  have HXL : Hid (x.d.length = xl) := hxl.symm
  rw [← hxl] at d3 hdl
  clear hW hC hO' hO hN hal hB hx okx h hxl
  go_enter Try.func75, Try.ntmps75
  go_upto_region 1 with fail
  rw [HW.out, HO.out]
  clear hb1
  go_wp2
  go_loopw [7, 8] (fun v ix wr => ∃ k : Nat, k ≤ n ∧ ix = .int .i64 k ∧ wr.ownsRow W.heap.size 5 1 v k ((toI (bp x.d k)).map (Value.int .u8)) ∧ Below W.heap.size W wr) (fun _ ix _ => n - (intOf ix).toNat)
  case atStart => exact ⟨0, Nat.zero_le _, rfl, World.ownsRow_nil _ _ _ _, Below.refl _ _⟩
  case round =>
    obtain ⟨k, hk, rfl, ho, hb⟩ := hrel
    obtain ⟨a7, c7, rfl⟩ := owns_shape ho
    by_cases hlt : k < n
    · have c3' := (hb.cell (p := ⟨O, 3, none⟩) hOl).trans c3
      have d3' := (hb.cell (p := ⟨g, off + i * 4 + 3, none⟩) hgl).trans d3
      have hs := hb.size
      have keyA : ∀ y : Nat, y = x.d.getD k 0 → (wr.alloc (.cells #[.int .u8 (y : Int)] 5)).ownsRow W.heap.size 5 1 (.slice a7 k c7) k ((toI (bp x.d k)).map (Value.int .u8)) := fun y _ => ho.alloc _
      have keyB : ∀ y : Nat, y = x.d.getD k 0 → ∀ v' w', w'.ownsRow W.heap.size 5 1 v' (k + 1) ((toI (bp x.d k)).map (Value.int .u8) ++ [.int .u8 (y : Int)]) → (((wr.alloc (.cells #[.int .u8 (y : Int)] 5)).grownBy w' none ∧ ∀ q, v'.ownBlock = some q → (wr.alloc (.cells #[.int .u8 (y : Int)] 5)).heap.size ≤ q) ∨ ((wr.alloc (.cells #[.int .u8 (y : Int)] 5)).grownBy w' (Value.slice a7 k c7).ownBlock ∧ v'.ownBlock = (Value.slice a7 k c7).ownBlock ∧ (Value.slice a7 k c7).ownBlock ≠ none)) → w'.ownsRow W.heap.size 5 1 v' (k + 1) ((toI (bp x.d (k + 1))).map (Value.int .u8)) ∧ Below W.heap.size W w' := by
        intro y hy v' w' ho' hg'
        have hb2 := hb.alloc hb.size (.cells #[.int .u8 (y : Int)] 5)
        refine ⟨?_, ?_⟩
        · have e : (toI (bp x.d (k + 1))).map (Value.int .u8) = (toI (bp x.d k)).map (Value.int .u8) ++ [.int .u8 (y : Int)] := by rw [bp_succ, hy]; simp [toI]
          rw [e]; exact ho'
        · rcases hg' with ⟨g1, _⟩ | ⟨g1, _, _⟩
          · exact hb2.grown g1 hb2.size (by intro q hq; cases hq)
          · exact hb2.grown g1 hb2.size (fun q hq => (ho.lt q hq).1)
      have HKB : Hid _ := keyB
      have hbase : ∀ y : Nat, W.heap.size ≤ (wr.alloc (.cells #[.int .u8 (y : Int)] 5)).heap.size := fun y => by simp; omega
      clear keyB ho
      by_cases hkd : k < xl
      · have g1 : decide (k < xl) = true := decide_eq_true hkd
        have sg : Seg .u8 wr x.a (toI x.d) := Seg.old HSEG.out hb
        rcases sg with h0 | ⟨db, doff, hda, hdc⟩
        · have : x.d.length = 0 := by rw [← toI_len, h0]; rfl
          have := HXL.out
          omega
        have cd := hdc k (by rw [toI_len, HXL.out]; exact hkd)
        rw [toI_getD] at cd
        rw [hda] at d3'
        obtain ⟨y, hy⟩ : ∃ y, y = x.d.getD k 0 := ⟨_, rfl⟩
        rw [← hy] at cd
        have hrow := keyA y hy
        have HY : Hid (y = x.d.getD k 0) := hy
        clear hdc hda hy keyA hb
        go_wp2_with (first | (at_builtin; refine append_split rfl (.tmp 33) (.tmp 35) 43 rfl W.heap.size 5 i0 (.int .u8 0) 1 Try.underlying43 hii hz0 hz1 hz2 rfl (.slice a7 k c7) k ((toI (bp x.d k)).map (Value.int .u8)) rfl hrow ⟨wr.heap.size, 0, none⟩ 1 1 [.int .u8 (y : Int)] rfl rfl (news1 _ _ _) (by intro u hu; simp at hu; subst hu; rfl) (by unfold maxLen; omega) (by omega) (hbase y) ?_))
        intro v' w' ho' hg'
        obtain ⟨r1, r2⟩ := HKB.out y HY.out v' w' ho' (by simpa using hg')
        clear ho' hg' HKB
        go_wp2
        go_roundw
        case rel => exact ⟨k + 1, by omega, by go_num, r1, r2⟩
        case measure => simp [intOf]; omega
      · have g1 : decide (k < xl) = false := decide_eq_false hkd
        have hy : (0 : Nat) = x.d.getD k 0 := by
          have := HXL.out
          simp [List.getD, show ¬ k < x.d.length by omega]
        have hrow := keyA 0 hy
        have HY : Hid ((0 : Nat) = x.d.getD k 0) := hy
        have hrow' : (wr.alloc (.cells #[.int .u8 0] 5)).ownsRow W.heap.size 5 1 (.slice a7 k c7) k ((toI (bp x.d k)).map (Value.int .u8)) := hrow
        have hbase0 : W.heap.size ≤ (wr.alloc (.cells #[.int .u8 0] 5)).heap.size := hbase 0
        clear hy keyA hb hrow
        go_wp2_with (first | (at_builtin; refine append_split rfl (.tmp 33) (.tmp 35) 43 rfl W.heap.size 5 i0 (.int .u8 0) 1 Try.underlying43 hii hz0 hz1 hz2 rfl (.slice a7 k c7) k ((toI (bp x.d k)).map (Value.int .u8)) rfl hrow' ⟨wr.heap.size, 0, none⟩ 1 1 [.int .u8 0] rfl rfl (news1 _ _ _) (by intro u hu; simp at hu; subst hu; rfl) (by unfold maxLen; omega) (by omega) hbase0 ?_))
        intro v' w' ho' hg'
        obtain ⟨r1, r2⟩ := HKB.out 0 HY.out v' w' ho' (by simpa using hg')
        clear ho' hg' HKB
        go_wp2
        go_roundw
        case rel => exact ⟨k + 1, by omega, by go_num, r1, r2⟩
        case measure => simp [intOf]; omega
    · obtain rfl : k = n := by omega
      have hfin : Below w.heap.size w wr := HB1.out.trans (hb.mono HB1.out.size)
      have hown := owns_mono ho hbs
      clear hb ho
      go_wp2
      go_ret
      exact ⟨_, rfl, hown, hfin⟩
/-- bytes laid over others, from the beginning on: the first k -/
def ov (old b : List Nat) (k : Nat) : List Nat := b ++ (old.take k).drop b.length
theorem ov_len (old b : List Nat) (k : Nat) (h1 : b.length ≤ k) (h2 : k ≤ old.length) : (ov old b k).length = k := by simp [ov]; omega
theorem ov_zero (old b : List Nat) (k : Nat) (h : k ≤ b.length) : ov old b k = b := by
  unfold ov
  rw [List.drop_eq_nil_of_le (by simp; omega)]
  simp
theorem ov_succ (old b : List Nat) (k : Nat) (h1 : b.length ≤ k) (h2 : k < old.length) : ov old b (k + 1) = ov old b k ++ [old.getD k 0] := by
  unfold ov
  rw [List.take_succ_eq_append_getElem h2, List.drop_append_of_le_length (by simp; omega), List.append_assoc]
  simp [List.getD, h2]
set_option maxRecDepth 100000 in
set_option maxHeartbeats 1600000 in
theorem laid_any (w : World) (a0 : Option Addr) (c0 : Nat) (old : List Nat) (a1 : Option Addr) (c1 : Nat) (b : List Nat) (hs0 : Seg .u8 w a0 (toI old)) (hs1 : Seg .u8 w a1 (toI b)) (h0 : old.length ≤ 65535) (h1 : b.length ≤ 65535) :
    Calls Try.prog 77 #[.slice a0 old.length c0, .slice a1 b.length c1] w fun e w' => ∃ v, e = .returned v ∧ w'.ownsRow w.heap.size 5 1 v (max b.length old.length) ((toI (ov old b old.length)).map (Value.int .u8)) ∧ Below w.heap.size w w' := by
  obtain ⟨i0, hi, hz0, hz1, hz2⟩ := info_parts Try.infoByte
  obtain ⟨n, hn⟩ : ∃ n, n = b.length := ⟨_, rfl⟩
  obtain ⟨m, hm⟩ : ∃ m, m = old.length := ⟨_, rfl⟩
  have HN : Hid (b.length = n) := hn.symm
  have HM : Hid (old.length = m) := hm.symm
  rw [← hn, ← hm]
  rw [← hn] at h1
  rw [← hm] at h0
  have HS0 : Hid _ := hs0
  clear hn hm hs0
  go_enter Try.func77, Try.ntmps77
  go_wp2_with (first | (at_builtin; refine append_split_seg rfl (.tmp 7) (.tmp 8) 43 rfl w.heap.size 5 i0 (.int .u8 0) 1 Try.underlying43 hi hz0 hz1 hz2 rfl (.slice none 0 0) 0 [] rfl (World.ownsRow_nil _ _ _ _) .u8 a1 n c1 (toI b) rfl (by rw [toI_len]; exact HN.out) hs1 (by unfold maxLen; omega) (by omega) (Nat.le_refl _) ?_))
  intro v1 w1 ho1 hq1 hg1
  have hb1 : Below w.heap.size w w1 := (Below.refl _ _).grown hg1 (Nat.le_refl _) (by intro k hk; simp [Value.ownBlock] at hk)
  have ho2 : w1.ownsRow w.heap.size 5 1 v1 n ((toI (ov old b n)).map (Value.int .u8)) := by
    rw [ov_zero old b n (by rw [HN.out]; omega)]
    simpa using ho1
  clear hq1 hg1 ho1 hs1
  go_wp2
  go_loopw [5, 6] (fun v ix wr => ∃ k : Nat, n ≤ k ∧ (k ≤ m ∨ k = n) ∧ ix = .int .i64 k ∧ wr.ownsRow w.heap.size 5 1 v k ((toI (ov old b k)).map (Value.int .u8)) ∧ Below w.heap.size w wr) (fun _ ix _ => m - (intOf ix).toNat)
  case atStart => exact ⟨n, Nat.le_refl _, .inr rfl, rfl, ho2, hb1⟩
  case round =>
    obtain ⟨k, hk1, hk2, rfl, ho, hb⟩ := hrel
    clear ho2 hb1
    obtain ⟨a7, c7, rfl⟩ := owns_shape ho
    by_cases hlt : k < m
    · have sg : Seg .u8 wr a0 (toI old) := Seg.old HS0.out hb
      rcases sg with h0' | ⟨db, doff, rfl, hdc⟩
      · have : old.length = 0 := by rw [← toI_len, h0']; rfl
        have := HM.out
        omega
      have cd := hdc k (by rw [toI_len, HM.out]; exact hlt)
      rw [toI_getD] at cd
      obtain ⟨y, hy⟩ : ∃ y, y = old.getD k 0 := ⟨_, rfl⟩
      rw [← hy] at cd
      have hrow := ho.alloc (.cells #[.int .u8 (y : Int)] 5)
      have hb2 := hb.alloc hb.size (.cells #[.int .u8 (y : Int)] 5)
      have hoS : ov old b (k + 1) = ov old b k ++ [y] := by rw [hy]; exact ov_succ old b k (by rw [HN.out]; exact hk1) (by rw [HM.out]; exact hlt)
      have HOS : Hid _ := hoS
      have HLT : Hid (∀ q, (Value.slice a7 k c7).ownBlock = some q → w.heap.size ≤ q) := fun q hq => (ho.lt q hq).1
      clear hdc hy ho hb hoS
      go_wp2_with (first | (at_builtin; refine append_split rfl (.tmp 18) (.tmp 23) 43 rfl w.heap.size 5 i0 (.int .u8 0) 1 Try.underlying43 hi hz0 hz1 hz2 rfl (.slice a7 k c7) k ((toI (ov old b k)).map (Value.int .u8)) rfl hrow ⟨wr.heap.size, 0, none⟩ 1 1 [.int .u8 (y : Int)] rfl rfl (news1 _ _ _) (by intro u hu; simp at hu; subst hu; rfl) (by unfold maxLen; omega) (by omega) hb2.size ?_))
      intro v' w' ho' hg'
      have r1 : w'.ownsRow w.heap.size 5 1 v' (k + 1) ((toI (ov old b (k + 1))).map (Value.int .u8)) := by
        have e : (toI (ov old b (k + 1))).map (Value.int .u8) = (toI (ov old b k)).map (Value.int .u8) ++ [.int .u8 (y : Int)] := by rw [HOS.out]; simp [toI]
        rw [e]; exact ho'
      have r2 : Below w.heap.size w w' := by
        rcases hg' with ⟨g1, _⟩ | ⟨g1, _, _⟩
        · exact hb2.grown g1 hb2.size (by intro q hq; cases hq)
        · exact hb2.grown g1 hb2.size HLT.out
      clear ho' hg' hrow hb2
      go_wp2
      go_roundw
      case rel => exact ⟨k + 1, by omega, .inl (by omega), by go_num, r1, r2⟩
      case measure => simp [intOf]; omega
    · have hkm : k = max n m := by omega
      have hov : ov old b k = ov old b m := by
        rcases hk2 with h2 | h2
        · rw [show k = m by omega]
        · rw [h2, ov_zero old b n (by rw [HN.out]; omega), ov_zero old b m (by rw [HN.out]; omega)]
      rw [hov] at ho
      have HO : Hid _ := ho
      have HKM : Hid _ := hkm
      clear ho hkm hov
      go_wp2
      go_ret
      refine ⟨_, rfl, ?_, hb⟩
      rw [← HKM.out]
      exact HO.out
end Go.Proofs.Ythknkfggpdhdbaa
namespace Go.Proofs.Ythknkfggpdhdbaa
open Go.RowKit

theorem results_rp_tmp2 {fn : Func} {p u v : Tmp} (h : fn.results = #[.cell p 26, .tmp u, .tmp v]) (tmps : Array Value) (w : World) (O : Nat) (r : RV) (hp : tmps.getD p undef = .pointer (some ⟨O, 0, none⟩)) (hb : RpAt w O r) :
    (results fn tmps).run Try.prog w = .ok (.tuple #[.agg r.cells, tmps.getD u undef, tmps.getD v undef]) w := by
  have hp' : tmps[p]?.getD undef = .pointer (some ⟨O, 0, none⟩) := by simpa using hp
  simp [results, h, hp', asAddr, run_loadVar_row w O _ 26 r.cells _ _ hb Try.underlying26 rfl Try.sizePortR]
theorem results_rp_tmp3 {fn : Func} {p u v x : Tmp} (h : fn.results = #[.cell p 26, .tmp u, .tmp v, .tmp x]) (tmps : Array Value) (w : World) (O : Nat) (r : RV) (hp : tmps.getD p undef = .pointer (some ⟨O, 0, none⟩)) (hb : RpAt w O r) :
    (results fn tmps).run Try.prog w = .ok (.tuple #[.agg r.cells, tmps.getD u undef, tmps.getD v undef, tmps.getD x undef]) w := by
  have hp' : tmps[p]?.getD undef = .pointer (some ⟨O, 0, none⟩) := by simpa using hp
  simp [results, h, hp', asAddr, run_loadVar_row w O _ 26 r.cells _ _ hb Try.underlying26 rfl Try.sizePortR]
/-- the port's own box, and that of what it answers -/
structure Two (w W : World) (O : Nat) (r : RV) : Prop where
  box : RpAt W O r
  res : RpAt W (O + 1) rz
  bel : Below w.heap.size w W
  ok : RV.ok W r
  at' : w.heap.size = O
theorem two_new (w : World) (r : RV) (h : RV.ok w r) : Two w ((w.alloc (.cells r.cells 26)).alloc (.cells #[.int .i64 0, .int .i64 0, .int .i64 0, .slice none 0 0, .int .i64 0] 26)) w.heap.size r := by
  have hb1 : Below w.heap.size w (w.alloc (.cells r.cells 26)) := (Below.refl _ _).alloc (Nat.le_refl _) _
  have hb2 := hb1.alloc hb1.size (.cells rz.cells 26)
  have hR : RpAt ((w.alloc (.cells r.cells 26)).alloc (.cells rz.cells 26)) (w.heap.size + 1) rz := by have := rpAt_new (w.alloc (.cells r.cells 26)) rz; rwa [World.size_alloc] at this
  exact ⟨(rpAt_new w r).below ((Below.refl _ _).alloc (Nat.le_refl _) _), hR, hb2, h.old hb2, rfl⟩
theorem Two.old {w W W' : World} {O : Nat} {r : RV} (h : Two w W O r) (hb : Below W.heap.size W W') : Two w W' O r := ⟨h.box.below hb, h.res.below hb, h.bel.trans (hb.mono h.bel.size), h.ok.old hb, h.at'⟩
/-- the answer is laid into its box -/
theorem Two.laid {w W W' W'' : World} {O : Nat} {r r' : RV} (h : Two w W O r) (hb : Below W.heap.size W W') (ok : RV.ok W' r') (hal : ∀ a, r'.al = some a → r'.al = r.al ∨ W.heap.size ≤ a.block) (hd : ∀ q, r'.dblk q → r.dblk q ∨ W.heap.size ≤ q) (h0 : RV.ok w r) (h1 : ∀ a, r.al = some a → a.block < w.heap.size) (k : Ch (fun q => q = O + 1) W' W'') : RV.ok W'' r' ∧ Below w.heap.size w W'' := by
  have hl := h.res.lt
  have ha := h.at'
  refine ⟨ok.ch k (fun a e hq => ?_) (fun q e hq => ?_), (h.bel.trans (hb.mono h.bel.size)).trans (k.below (fun q e => by omega) (by have := h.bel.size; have := hb.size; omega))⟩
  · rcases hal a e with h2 | h2
    · have := h1 a (h2 ▸ e)
      have hq' : a.block = O + 1 := hq
      omega
    · have hq' : a.block = O + 1 := hq
      omega
  · rcases hd q e with h2 | h2
    · have := h0.dlt q h2; omega
    · omega
theorem mv_lt {w' : World} {r : RV} {k pc g cl : Nat} (h : RV.ok w' (r.mv k pc g cl)) (hk : k < r.L.length) : g < w'.heap.size := by
  rcases h.bufs with h0 | ⟨b, o, e5, hlt, _⟩
  · have e6 := congrArg List.length h0
    have e7 : (r.mv k pc g cl).L.length = r.L.length := by unfold RV.mv; simp
    rw [e7] at e6
    have e8 : r.L.length = 0 := e6
    omega
  · have e6 : (⟨g, 0, none⟩ : Addr) = ⟨b, o, none⟩ := Option.some.inj e5
    obtain ⟨e7, _, _⟩ := Addr.mk.inj e6
    omega
set_option maxRecDepth 100000 in
set_option maxHeartbeats 1600000 in
theorem pollR_any (w : World) (r : RV) (h : RV.ok w r) (hal : ∀ a, r.al = some a → a.block < w.heap.size) (hn : r.now + 1 ≤ 4611686018427387904) :
    Calls Try.prog 65 #[.agg r.cells] w fun e w' => (bst r.L 3 r.L.length < 0 ∧ e = .returned (.tuple #[.agg r.cells, .int .i64 0, .int .i64 0, .bool false]) ∧ Below w.heap.size w w') ∨
      ∃ (k g cl : Nat) (hk : k < r.L.length), bst r.L 3 r.L.length = (k : Int) ∧ e = .returned (.tuple #[.agg (r.mv k 4 g cl).cells, .int .i64 k, .int .i64 r.L[k].n, .bool true]) ∧ RV.ok w' (r.mv k 4 g cl) ∧ w.heap.size ≤ g ∧ g < w'.heap.size ∧ Below w.heap.size w w' := by
  have T0 := two_new w r h
  obtain ⟨W, hW⟩ : ∃ W, W = (w.alloc (.cells r.cells 26)).alloc (.cells #[.int .i64 0, .int .i64 0, .int .i64 0, .slice none 0 0, .int .i64 0] 26) := ⟨_, rfl⟩
  obtain ⟨O, hO⟩ : ∃ O, O = w.heap.size := ⟨_, rfl⟩
  rw [← hW, ← hO] at T0
  obtain ⟨C, hC⟩ : ∃ C, C = r.cells := ⟨_, rfl⟩
  have HC : Hid (r.cells = C) := hC.symm
  have HW : Hid ((w.alloc (.cells C 26)).alloc (.cells #[.int .i64 0, .int .i64 0, .int .i64 0, .slice none 0 0, .int .i64 0] 26) = W) := by rw [hC]; exact hW.symm
  have HO : Hid (w.heap.size = O) := hO.symm
  have Q1 : Hid _ := first_any W r.rx r.tx r.size r.al r.cl r.now r.L T0.ok.bufs T0.ok.len 3
  have hb2 := T0.box
  have HH : Hid _ := h
  have HAL : Hid _ := hal
  have HT : Hid _ := T0
  obtain ⟨B, hB⟩ : ∃ B, B = bst r.L 3 r.L.length := ⟨_, rfl⟩
  rw [← hB] at Q1
  have HB : Hid (bst r.L 3 r.L.length = B) := hB.symm
  have hbl := bst_lt r.L 3 r.L.length
  rw [← hB] at hbl
  rw [show #[Value.agg r.cells] = #[Value.agg C] from by rw [hC]]
  clear hW hC hO h hal hB T0
  go_enter Try.func65, Try.ntmps65
  go_upto_region 1 with fail
  rw [HW.out, HO.out]
  go_wp2_with (first | (refine wpList_load_rp (.tmp 1) rfl O r rfl hb2 rfl ?_))
  refine Calls.mono Q1.out ?_
  rintro e w3 ⟨rfl, hb3⟩
  have T3 := HT.out.old hb3
  have hbox := T3.box
  have hres := T3.res
  have HT3 : Hid _ := T3
  clear Q1 hb2 HT hb3 T3
  by_cases hneg : B < 0
  · have g1 : decide (B < 0) = true := decide_eq_true hneg
    go_wp2_with (first | (refine wpList_load_rp (.tmp 1) rfl O r rfl hbox rfl ?_) | (refine wpList_store_rp (.tmp 2) (.tmp 11) rfl rfl (O + 1) rz r rfl rfl hres rfl ?_))
    intro w5 hR5 k5
    have hfin : Below w.heap.size w w5 := by
      have ht := HT3.out
      exact ht.bel.trans (k5.below (fun q e => by have := ht.at'; omega) ht.bel.size)
    clear k5 hbox hres g1
    go_wp2
    (try simp only [Exit.inBlock, Exit.then])
    refine bodyPost_ret (results_rp_tmp3 rfl _ _ (O + 1) r rfl hR5) rfl ?_
    exact .inl ⟨by rw [HB.out]; exact hneg, rfl, hfin⟩
  · have g1 : decide (B < 0) = false := decide_eq_false hneg
    obtain ⟨k, rfl⟩ : ∃ k : Nat, B = (k : Int) := ⟨B.toNat, by omega⟩
    have hk : k < r.L.length := by omega
    obtain ⟨gg, off, hal, hggl, okx, _, _, d2, _⟩ := HT3.out.ok.bufs.at k hk
    have c3 := hbox.c3
    rw [hal] at c3
    obtain ⟨x2, hx2⟩ : ∃ x2, x2 = r.L[k].n := ⟨_, rfl⟩
    rw [← hx2] at d2
    have HX2 : Hid (x2 = r.L[k].n) := hx2
    have HK : Hid _ := hk
    have Q2 : Hid (∀ (v : World), Two w v O r → Calls Try.prog 79 #[.agg r.cells, .int .i64 k, .int .i64 (4 : Nat)] v fun e w' => ∃ g cl, e = .returned (.agg (r.mv k 4 g cl).cells) ∧ RV.ok w' (r.mv k 4 g cl) ∧ v.heap.size ≤ g ∧ g < w'.heap.size ∧ Below v.heap.size v w') := by
      intro v tv
      refine (mv_any v r tv.ok hn k HK.out 4 (by decide)).mono ?_
      rintro e w' ⟨g, cl, h1, h2, h3, h4⟩
      exact ⟨g, cl, h1, h2, h3, mv_lt h2 HK.out, h4⟩
    have hggO : gg < O := by have h1 := HAL.out _ hal; have h2 := HO.out; simp only at h1; omega
    obtain ⟨N, hN⟩ : ∃ N, N = r.L.length := ⟨_, rfl⟩
    rw [← hN] at c3
    have t0 : (0 : Int) ≤ (k : Int) := by omega
    have t1 : (k : Int) < (N : Int) := by omega
    have t2 : ((k : Int)).toNat = k := by omega
    clear hbl hneg hx2 hal hN
    go_upto_region 4 with fail
    go_cut [3, 4, 5] (fun a b c wx => ∃ g cl, a = .int .i64 k ∧ b = .int .i64 x2 ∧ c = .bool true ∧ RpAt wx (O + 1) (r.mv k 4 g cl) ∧ RV.ok wx (r.mv k 4 g cl) ∧ w.heap.size ≤ g ∧ g < wx.heap.size ∧ Below w.heap.size w wx)
    case first =>
      refine Mix.start (by kernel_rfl) ?_
      obtain ⟨wA, hwA⟩ : ∃ wA, wA = w3.drew := ⟨_, rfl⟩
      have Tw : Hid (Two w wA O r) := by rw [hwA]; exact HT3.out.old (Below.refl _ _).drew
      have hOl : O < wA.heap.size := Tw.out.box.lt
      replace hggl : gg < wA.heap.size := by rw [hwA]; exact hggl
      replace c3 : wA.cell? ⟨O, 3, none⟩ = some (.slice (some ⟨gg, off, none⟩) N r.cl) := by rw [hwA]; exact c3
      replace d2 : wA.cell? ⟨gg, off + k * 4 + 2, none⟩ = some (.int .i64 (x2 : Int)) := by rw [hwA]; exact d2
      replace hbox := Tw.out.box
      replace hres := Tw.out.res
      rw [← hwA]
      clear hwA g1
      refine Mix.take [false, true, false, true, true, false, true] 10 (by kernel_rfl) (by kernel_rfl) (by decide) (by kernel_rfl) (fun K hK => ?_)
      simp only [Mix.pick]
      repeat (go_big_quiet_step (fail))
      refine wpQuiet_nil (hK _ ?_)
      clear hK K
      refine Mix.pair [true] [false, false, false, false, false, true] 9 0 5 _ _ rfl rfl rfl rfl (by kernel_rfl) (by kernel_rfl) (fun K hK => ?_) (fun K hK => ?_)
      · simp only [Mix.pick]
        go_wp2_with (first | (refine wpList_load_rp (.tmp 1) rfl O r rfl hbox rfl ?_))
        go_wp2
        refine ⟨rfl, hK _ _ ?_⟩
        clear hK K
        refine Mix.pair [false, false, true] [false, false, false, false, false, true] 8 2 5 _ _ rfl rfl rfl rfl (by kernel_rfl) (by kernel_rfl) (fun K hK => ?_) (fun K hK => ?_)
        · simp only [Mix.pick]
          go_wp2_with fail
          refine Calls.mono (Q2.out wA Tw.out) ?_
          rintro e w4 ⟨g, cl, rfl, hr4, hg4, hgl, hb4⟩
          replace c3 := (hb4.cell (p := ⟨O, 3, none⟩) hOl).trans c3
          replace d2 := (hb4.cell (p := ⟨gg, off + k * 4 + 2, none⟩) hggl).trans d2
          replace hres := hres.below hb4
          have HR4 : Hid _ := hr4
          have HG4 : Hid _ := hg4
          have HB4 : Hid _ := hb4
          have HGL : Hid _ := hgl
          obtain ⟨r', hr'⟩ : ∃ r', r' = r.mv k 4 g cl := ⟨_, rfl⟩
          rw [← hr'] at HR4 ⊢
          have HR' : Hid (r' = r.mv k 4 g cl) := hr'
          clear hr4 hg4 hb4 hgl hr'
          go_wp2
          refine ⟨rfl, hK _ _ ?_⟩
          clear hK K
          refine Mix.pair [false, false, false, false, false, true] [false, false, false, false, false, false, false, false, false, false, true] 7 5 10 _ _ rfl rfl rfl rfl (by kernel_rfl) (by kernel_rfl) (fun K hK => ?_) (fun K hK => ?_)
          · simp only [Mix.pick]
            go_wp2
            refine ⟨rfl, hK _ _ ?_⟩
            clear hK K
            refine Mix.take [false, false, false, false, false, false, false, true, true] 5 (by kernel_rfl) (by kernel_rfl) (by decide) (by kernel_rfl) (fun K hK => ?_)
            simp only [Mix.pick]
            repeat (go_big_quiet_step (fail))
            refine wpQuiet_nil (hK _ ?_)
            clear hK K
            refine Mix.pair [false, false, false, false, false, false, false, false, false, true] [false, false, false, false, false, false, false, false, false, false, true] 4 9 10 _ _ rfl rfl rfl rfl (by kernel_rfl) (by kernel_rfl) (fun K hK => ?_) (fun K hK => ?_)
            · simp only [Mix.pick]
              go_wp2
              refine ⟨rfl, hK _ _ ?_⟩
              clear hK K
              refine Mix.one [false, false, false, false, false, false, false, false, false, false, true] 3 10 _ rfl rfl (by kernel_rfl) (by kernel_rfl) (fun K hK => ?_)
              simp only [Mix.pick]
              go_wp2_with (first | (refine wpList_store_rp (.tmp 2) (.tmp 14) rfl rfl (O + 1) rz r' rfl rfl hres rfl ?_))
              intro w5 hR5 k5
              replace c3 := k5.cell c3 (show ¬ O = O + 1 by omega)
              replace d2 := k5.cell d2 (show ¬ gg = O + 1 by omega)
              go_wp2
              refine ⟨rfl, hK _ _ ?_⟩
              clear hK K
              refine Mix.take [false, false, false, false, false, false, false, false, false, false, false, true, true, true] 0 (by kernel_rfl) (by kernel_rfl) (by decide) (by kernel_rfl) (fun K hK => ?_)
              simp only [Mix.pick]
              repeat (go_big_quiet_step (fail))
              refine wpQuiet_nil (hK _ ?_)
              clear hK K
              refine Mix.done (by kernel_rfl) ?_
              first | go_meet | (go_wp2; go_meet)
              obtain ⟨h1, h2⟩ := Two.laid Tw.out HB4.out HR4.out (fun a ha => by
                have e := HR'.out ▸ ha
                have e2 := Option.some.inj e
                subst e2
                exact .inr HG4.out) (fun q hq => .inl (mv_dblk r k 4 g cl HK.out q (HR'.out ▸ hq))) HH.out HAL.out k5
              have h3 := HR'.out
              subst h3
              exact ⟨g, cl, rfl, rfl, rfl, hR5, h1, Nat.le_trans Tw.out.bel.size HG4.out, Nat.lt_of_lt_of_le HGL.out k5.size, h2⟩
            · simp only [Mix.pick]
              go_wp2_with (first | (refine wpList_store_rp (.tmp 2) (.tmp 14) rfl rfl (O + 1) rz r' rfl rfl hres rfl ?_))
              intro w5 hR5 k5
              replace c3 := k5.cell c3 (show ¬ O = O + 1 by omega)
              replace d2 := k5.cell d2 (show ¬ gg = O + 1 by omega)
              go_wp2
              refine ⟨rfl, hK _ _ ?_⟩
              clear hK K
              refine Mix.take [false, false, false, false, false, false, false, false, false, false, false, true] 3 (by kernel_rfl) (by kernel_rfl) (by decide) (by kernel_rfl) (fun K hK => ?_)
              simp only [Mix.pick]
              repeat (go_big_quiet_step (fail))
              refine wpQuiet_nil (hK _ ?_)
              clear hK K
              refine Mix.one [false, false, false, false, false, false, false, false, false, true] 2 9 _ rfl rfl (by kernel_rfl) (by kernel_rfl) (fun K hK => ?_)
              simp only [Mix.pick]
              go_wp2
              refine ⟨rfl, hK _ _ ?_⟩
              clear hK K
              refine Mix.take [false, false, false, false, false, false, false, false, false, false, false, false, true, true] 0 (by kernel_rfl) (by kernel_rfl) (by decide) (by kernel_rfl) (fun K hK => ?_)
              simp only [Mix.pick]
              repeat (go_big_quiet_step (fail))
              refine wpQuiet_nil (hK _ ?_)
              clear hK K
              refine Mix.done (by kernel_rfl) ?_
              first | go_meet | (go_wp2; go_meet)
              obtain ⟨h1, h2⟩ := Two.laid Tw.out HB4.out HR4.out (fun a ha => by
                have e := HR'.out ▸ ha
                have e2 := Option.some.inj e
                subst e2
                exact .inr HG4.out) (fun q hq => .inl (mv_dblk r k 4 g cl HK.out q (HR'.out ▸ hq))) HH.out HAL.out k5
              have h3 := HR'.out
              subst h3
              exact ⟨g, cl, rfl, rfl, rfl, hR5, h1, Nat.le_trans Tw.out.bel.size HG4.out, Nat.lt_of_lt_of_le HGL.out k5.size, h2⟩
          · simp only [Mix.pick]
            go_wp2_with (first | (refine wpList_store_rp (.tmp 2) (.tmp 14) rfl rfl (O + 1) rz r' rfl rfl hres rfl ?_))
            intro w5 hR5 k5
            replace c3 := k5.cell c3 (show ¬ O = O + 1 by omega)
            replace d2 := k5.cell d2 (show ¬ gg = O + 1 by omega)
            go_wp2
            refine ⟨rfl, hK _ _ ?_⟩
            clear hK K
            refine Mix.take [false, false, false, false, false, false, false, false, false, false, false, true] 6 (by kernel_rfl) (by kernel_rfl) (by decide) (by kernel_rfl) (fun K hK => ?_)
            simp only [Mix.pick]
            repeat (go_big_quiet_step (fail))
            refine wpQuiet_nil (hK _ ?_)
            clear hK K
            refine Mix.one [false, false, false, false, false, true] 5 5 _ rfl rfl (by kernel_rfl) (by kernel_rfl) (fun K hK => ?_)
            simp only [Mix.pick]
            go_wp2
            refine ⟨rfl, hK _ _ ?_⟩
            clear hK K
            refine Mix.take [false, false, false, false, false, false, false, true, true] 3 (by kernel_rfl) (by kernel_rfl) (by decide) (by kernel_rfl) (fun K hK => ?_)
            simp only [Mix.pick]
            repeat (go_big_quiet_step (fail))
            refine wpQuiet_nil (hK _ ?_)
            clear hK K
            refine Mix.one [false, false, false, false, false, false, false, false, false, true] 2 9 _ rfl rfl (by kernel_rfl) (by kernel_rfl) (fun K hK => ?_)
            simp only [Mix.pick]
            go_wp2
            refine ⟨rfl, hK _ _ ?_⟩
            clear hK K
            refine Mix.take [false, false, false, false, false, false, false, false, false, false, false, false, true, true] 0 (by kernel_rfl) (by kernel_rfl) (by decide) (by kernel_rfl) (fun K hK => ?_)
            simp only [Mix.pick]
            repeat (go_big_quiet_step (fail))
            refine wpQuiet_nil (hK _ ?_)
            clear hK K
            refine Mix.done (by kernel_rfl) ?_
            first | go_meet | (go_wp2; go_meet)
            obtain ⟨h1, h2⟩ := Two.laid Tw.out HB4.out HR4.out (fun a ha => by
              have e := HR'.out ▸ ha
              have e2 := Option.some.inj e
              subst e2
              exact .inr HG4.out) (fun q hq => .inl (mv_dblk r k 4 g cl HK.out q (HR'.out ▸ hq))) HH.out HAL.out k5
            have h3 := HR'.out
            subst h3
            exact ⟨g, cl, rfl, rfl, rfl, hR5, h1, Nat.le_trans Tw.out.bel.size HG4.out, Nat.lt_of_lt_of_le HGL.out k5.size, h2⟩
        · simp only [Mix.pick]
          go_wp2
          refine ⟨rfl, hK _ _ ?_⟩
          clear hK K
          refine Mix.take [false, false, false, false, false, false, false, true, true] 6 (by kernel_rfl) (by kernel_rfl) (by decide) (by kernel_rfl) (fun K hK => ?_)
          simp only [Mix.pick]
          repeat (go_big_quiet_step (fail))
          refine wpQuiet_nil (hK _ ?_)
          clear hK K
          refine Mix.pair [false, false, true] [false, false, false, false, false, false, false, false, false, true] 5 2 9 _ _ rfl rfl rfl rfl (by kernel_rfl) (by kernel_rfl) (fun K hK => ?_) (fun K hK => ?_)
          · simp only [Mix.pick]
            go_wp2_with fail
            refine Calls.mono (Q2.out wA Tw.out) ?_
            rintro e w4 ⟨g, cl, rfl, hr4, hg4, hgl, hb4⟩
            replace c3 := (hb4.cell (p := ⟨O, 3, none⟩) hOl).trans c3
            replace d2 := (hb4.cell (p := ⟨gg, off + k * 4 + 2, none⟩) hggl).trans d2
            replace hres := hres.below hb4
            have HR4 : Hid _ := hr4
            have HG4 : Hid _ := hg4
            have HB4 : Hid _ := hb4
            have HGL : Hid _ := hgl
            obtain ⟨r', hr'⟩ : ∃ r', r' = r.mv k 4 g cl := ⟨_, rfl⟩
            rw [← hr'] at HR4 ⊢
            have HR' : Hid (r' = r.mv k 4 g cl) := hr'
            clear hr4 hg4 hb4 hgl hr'
            go_wp2
            refine ⟨rfl, hK _ _ ?_⟩
            clear hK K
            refine Mix.pair [false, false, false, false, false, false, false, false, false, true] [false, false, false, false, false, false, false, false, false, false, true] 4 9 10 _ _ rfl rfl rfl rfl (by kernel_rfl) (by kernel_rfl) (fun K hK => ?_) (fun K hK => ?_)
            · simp only [Mix.pick]
              go_wp2
              refine ⟨rfl, hK _ _ ?_⟩
              clear hK K
              refine Mix.one [false, false, false, false, false, false, false, false, false, false, true] 3 10 _ rfl rfl (by kernel_rfl) (by kernel_rfl) (fun K hK => ?_)
              simp only [Mix.pick]
              go_wp2_with (first | (refine wpList_store_rp (.tmp 2) (.tmp 14) rfl rfl (O + 1) rz r' rfl rfl hres rfl ?_))
              intro w5 hR5 k5
              replace c3 := k5.cell c3 (show ¬ O = O + 1 by omega)
              replace d2 := k5.cell d2 (show ¬ gg = O + 1 by omega)
              go_wp2
              refine ⟨rfl, hK _ _ ?_⟩
              clear hK K
              refine Mix.take [false, false, false, false, false, false, false, false, false, false, false, true, true, true] 0 (by kernel_rfl) (by kernel_rfl) (by decide) (by kernel_rfl) (fun K hK => ?_)
              simp only [Mix.pick]
              repeat (go_big_quiet_step (fail))
              refine wpQuiet_nil (hK _ ?_)
              clear hK K
              refine Mix.done (by kernel_rfl) ?_
              first | go_meet | (go_wp2; go_meet)
              obtain ⟨h1, h2⟩ := Two.laid Tw.out HB4.out HR4.out (fun a ha => by
                have e := HR'.out ▸ ha
                have e2 := Option.some.inj e
                subst e2
                exact .inr HG4.out) (fun q hq => .inl (mv_dblk r k 4 g cl HK.out q (HR'.out ▸ hq))) HH.out HAL.out k5
              have h3 := HR'.out
              subst h3
              exact ⟨g, cl, rfl, rfl, rfl, hR5, h1, Nat.le_trans Tw.out.bel.size HG4.out, Nat.lt_of_lt_of_le HGL.out k5.size, h2⟩
            · simp only [Mix.pick]
              go_wp2_with (first | (refine wpList_store_rp (.tmp 2) (.tmp 14) rfl rfl (O + 1) rz r' rfl rfl hres rfl ?_))
              intro w5 hR5 k5
              replace c3 := k5.cell c3 (show ¬ O = O + 1 by omega)
              replace d2 := k5.cell d2 (show ¬ gg = O + 1 by omega)
              go_wp2
              refine ⟨rfl, hK _ _ ?_⟩
              clear hK K
              refine Mix.take [false, false, false, false, false, false, false, false, false, false, false, true] 3 (by kernel_rfl) (by kernel_rfl) (by decide) (by kernel_rfl) (fun K hK => ?_)
              simp only [Mix.pick]
              repeat (go_big_quiet_step (fail))
              refine wpQuiet_nil (hK _ ?_)
              clear hK K
              refine Mix.one [false, false, false, false, false, false, false, false, false, true] 2 9 _ rfl rfl (by kernel_rfl) (by kernel_rfl) (fun K hK => ?_)
              simp only [Mix.pick]
              go_wp2
              refine ⟨rfl, hK _ _ ?_⟩
              clear hK K
              refine Mix.take [false, false, false, false, false, false, false, false, false, false, false, false, true, true] 0 (by kernel_rfl) (by kernel_rfl) (by decide) (by kernel_rfl) (fun K hK => ?_)
              simp only [Mix.pick]
              repeat (go_big_quiet_step (fail))
              refine wpQuiet_nil (hK _ ?_)
              clear hK K
              refine Mix.done (by kernel_rfl) ?_
              first | go_meet | (go_wp2; go_meet)
              obtain ⟨h1, h2⟩ := Two.laid Tw.out HB4.out HR4.out (fun a ha => by
                have e := HR'.out ▸ ha
                have e2 := Option.some.inj e
                subst e2
                exact .inr HG4.out) (fun q hq => .inl (mv_dblk r k 4 g cl HK.out q (HR'.out ▸ hq))) HH.out HAL.out k5
              have h3 := HR'.out
              subst h3
              exact ⟨g, cl, rfl, rfl, rfl, hR5, h1, Nat.le_trans Tw.out.bel.size HG4.out, Nat.lt_of_lt_of_le HGL.out k5.size, h2⟩
          · simp only [Mix.pick]
            go_wp2
            refine ⟨rfl, hK _ _ ?_⟩
            clear hK K
            refine Mix.one [false, false, true] 4 2 _ rfl rfl (by kernel_rfl) (by kernel_rfl) (fun K hK => ?_)
            simp only [Mix.pick]
            go_wp2_with fail
            refine Calls.mono (Q2.out wA Tw.out) ?_
            rintro e w4 ⟨g, cl, rfl, hr4, hg4, hgl, hb4⟩
            replace c3 := (hb4.cell (p := ⟨O, 3, none⟩) hOl).trans c3
            replace d2 := (hb4.cell (p := ⟨gg, off + k * 4 + 2, none⟩) hggl).trans d2
            replace hres := hres.below hb4
            have HR4 : Hid _ := hr4
            have HG4 : Hid _ := hg4
            have HB4 : Hid _ := hb4
            have HGL : Hid _ := hgl
            obtain ⟨r', hr'⟩ : ∃ r', r' = r.mv k 4 g cl := ⟨_, rfl⟩
            rw [← hr'] at HR4 ⊢
            have HR' : Hid (r' = r.mv k 4 g cl) := hr'
            clear hr4 hg4 hb4 hgl hr'
            go_wp2
            refine ⟨rfl, hK _ _ ?_⟩
            clear hK K
            refine Mix.one [false, false, false, false, false, false, false, false, false, false, true] 3 10 _ rfl rfl (by kernel_rfl) (by kernel_rfl) (fun K hK => ?_)
            simp only [Mix.pick]
            go_wp2_with (first | (refine wpList_store_rp (.tmp 2) (.tmp 14) rfl rfl (O + 1) rz r' rfl rfl hres rfl ?_))
            intro w5 hR5 k5
            replace c3 := k5.cell c3 (show ¬ O = O + 1 by omega)
            replace d2 := k5.cell d2 (show ¬ gg = O + 1 by omega)
            go_wp2
            refine ⟨rfl, hK _ _ ?_⟩
            clear hK K
            refine Mix.take [false, false, false, false, false, false, false, false, false, false, false, true, true, true] 0 (by kernel_rfl) (by kernel_rfl) (by decide) (by kernel_rfl) (fun K hK => ?_)
            simp only [Mix.pick]
            repeat (go_big_quiet_step (fail))
            refine wpQuiet_nil (hK _ ?_)
            clear hK K
            refine Mix.done (by kernel_rfl) ?_
            first | go_meet | (go_wp2; go_meet)
            obtain ⟨h1, h2⟩ := Two.laid Tw.out HB4.out HR4.out (fun a ha => by
              have e := HR'.out ▸ ha
              have e2 := Option.some.inj e
              subst e2
              exact .inr HG4.out) (fun q hq => .inl (mv_dblk r k 4 g cl HK.out q (HR'.out ▸ hq))) HH.out HAL.out k5
            have h3 := HR'.out
            subst h3
            exact ⟨g, cl, rfl, rfl, rfl, hR5, h1, Nat.le_trans Tw.out.bel.size HG4.out, Nat.lt_of_lt_of_le HGL.out k5.size, h2⟩
      · simp only [Mix.pick]
        go_wp2
        refine ⟨rfl, hK _ _ ?_⟩
        clear hK K
        refine Mix.take [false, false, false, false, false, false, false, true, true] 7 (by kernel_rfl) (by kernel_rfl) (by decide) (by kernel_rfl) (fun K hK => ?_)
        simp only [Mix.pick]
        repeat (go_big_quiet_step (fail))
        refine wpQuiet_nil (hK _ ?_)
        clear hK K
        refine Mix.pair [true] [false, false, false, false, false, false, false, false, false, true] 6 0 9 _ _ rfl rfl rfl rfl (by kernel_rfl) (by kernel_rfl) (fun K hK => ?_) (fun K hK => ?_)
        · simp only [Mix.pick]
          go_wp2_with (first | (refine wpList_load_rp (.tmp 1) rfl O r rfl hbox rfl ?_))
          go_wp2
          refine ⟨rfl, hK _ _ ?_⟩
          clear hK K
          refine Mix.pair [false, false, true] [false, false, false, false, false, false, false, false, false, true] 5 2 9 _ _ rfl rfl rfl rfl (by kernel_rfl) (by kernel_rfl) (fun K hK => ?_) (fun K hK => ?_)
          · simp only [Mix.pick]
            go_wp2_with fail
            refine Calls.mono (Q2.out wA Tw.out) ?_
            rintro e w4 ⟨g, cl, rfl, hr4, hg4, hgl, hb4⟩
            replace c3 := (hb4.cell (p := ⟨O, 3, none⟩) hOl).trans c3
            replace d2 := (hb4.cell (p := ⟨gg, off + k * 4 + 2, none⟩) hggl).trans d2
            replace hres := hres.below hb4
            have HR4 : Hid _ := hr4
            have HG4 : Hid _ := hg4
            have HB4 : Hid _ := hb4
            have HGL : Hid _ := hgl
            obtain ⟨r', hr'⟩ : ∃ r', r' = r.mv k 4 g cl := ⟨_, rfl⟩
            rw [← hr'] at HR4 ⊢
            have HR' : Hid (r' = r.mv k 4 g cl) := hr'
            clear hr4 hg4 hb4 hgl hr'
            go_wp2
            refine ⟨rfl, hK _ _ ?_⟩
            clear hK K
            refine Mix.pair [false, false, false, false, false, false, false, false, false, true] [false, false, false, false, false, false, false, false, false, false, true] 4 9 10 _ _ rfl rfl rfl rfl (by kernel_rfl) (by kernel_rfl) (fun K hK => ?_) (fun K hK => ?_)
            · simp only [Mix.pick]
              go_wp2
              refine ⟨rfl, hK _ _ ?_⟩
              clear hK K
              refine Mix.one [false, false, false, false, false, false, false, false, false, false, true] 3 10 _ rfl rfl (by kernel_rfl) (by kernel_rfl) (fun K hK => ?_)
              simp only [Mix.pick]
              go_wp2_with (first | (refine wpList_store_rp (.tmp 2) (.tmp 14) rfl rfl (O + 1) rz r' rfl rfl hres rfl ?_))
              intro w5 hR5 k5
              replace c3 := k5.cell c3 (show ¬ O = O + 1 by omega)
              replace d2 := k5.cell d2 (show ¬ gg = O + 1 by omega)
              go_wp2
              refine ⟨rfl, hK _ _ ?_⟩
              clear hK K
              refine Mix.take [false, false, false, false, false, false, false, false, false, false, false, true, true, true] 0 (by kernel_rfl) (by kernel_rfl) (by decide) (by kernel_rfl) (fun K hK => ?_)
              simp only [Mix.pick]
              repeat (go_big_quiet_step (fail))
              refine wpQuiet_nil (hK _ ?_)
              clear hK K
              refine Mix.done (by kernel_rfl) ?_
              first | go_meet | (go_wp2; go_meet)
              obtain ⟨h1, h2⟩ := Two.laid Tw.out HB4.out HR4.out (fun a ha => by
                have e := HR'.out ▸ ha
                have e2 := Option.some.inj e
                subst e2
                exact .inr HG4.out) (fun q hq => .inl (mv_dblk r k 4 g cl HK.out q (HR'.out ▸ hq))) HH.out HAL.out k5
              have h3 := HR'.out
              subst h3
              exact ⟨g, cl, rfl, rfl, rfl, hR5, h1, Nat.le_trans Tw.out.bel.size HG4.out, Nat.lt_of_lt_of_le HGL.out k5.size, h2⟩
            · simp only [Mix.pick]
              go_wp2_with (first | (refine wpList_store_rp (.tmp 2) (.tmp 14) rfl rfl (O + 1) rz r' rfl rfl hres rfl ?_))
              intro w5 hR5 k5
              replace c3 := k5.cell c3 (show ¬ O = O + 1 by omega)
              replace d2 := k5.cell d2 (show ¬ gg = O + 1 by omega)
              go_wp2
              refine ⟨rfl, hK _ _ ?_⟩
              clear hK K
              refine Mix.take [false, false, false, false, false, false, false, false, false, false, false, true] 3 (by kernel_rfl) (by kernel_rfl) (by decide) (by kernel_rfl) (fun K hK => ?_)
              simp only [Mix.pick]
              repeat (go_big_quiet_step (fail))
              refine wpQuiet_nil (hK _ ?_)
              clear hK K
              refine Mix.one [false, false, false, false, false, false, false, false, false, true] 2 9 _ rfl rfl (by kernel_rfl) (by kernel_rfl) (fun K hK => ?_)
              simp only [Mix.pick]
              go_wp2
              refine ⟨rfl, hK _ _ ?_⟩
              clear hK K
              refine Mix.take [false, false, false, false, false, false, false, false, false, false, false, false, true, true] 0 (by kernel_rfl) (by kernel_rfl) (by decide) (by kernel_rfl) (fun K hK => ?_)
              simp only [Mix.pick]
              repeat (go_big_quiet_step (fail))
              refine wpQuiet_nil (hK _ ?_)
              clear hK K
              refine Mix.done (by kernel_rfl) ?_
              first | go_meet | (go_wp2; go_meet)
              obtain ⟨h1, h2⟩ := Two.laid Tw.out HB4.out HR4.out (fun a ha => by
                have e := HR'.out ▸ ha
                have e2 := Option.some.inj e
                subst e2
                exact .inr HG4.out) (fun q hq => .inl (mv_dblk r k 4 g cl HK.out q (HR'.out ▸ hq))) HH.out HAL.out k5
              have h3 := HR'.out
              subst h3
              exact ⟨g, cl, rfl, rfl, rfl, hR5, h1, Nat.le_trans Tw.out.bel.size HG4.out, Nat.lt_of_lt_of_le HGL.out k5.size, h2⟩
          · simp only [Mix.pick]
            go_wp2
            refine ⟨rfl, hK _ _ ?_⟩
            clear hK K
            refine Mix.one [false, false, true] 4 2 _ rfl rfl (by kernel_rfl) (by kernel_rfl) (fun K hK => ?_)
            simp only [Mix.pick]
            go_wp2_with fail
            refine Calls.mono (Q2.out wA Tw.out) ?_
            rintro e w4 ⟨g, cl, rfl, hr4, hg4, hgl, hb4⟩
            replace c3 := (hb4.cell (p := ⟨O, 3, none⟩) hOl).trans c3
            replace d2 := (hb4.cell (p := ⟨gg, off + k * 4 + 2, none⟩) hggl).trans d2
            replace hres := hres.below hb4
            have HR4 : Hid _ := hr4
            have HG4 : Hid _ := hg4
            have HB4 : Hid _ := hb4
            have HGL : Hid _ := hgl
            obtain ⟨r', hr'⟩ : ∃ r', r' = r.mv k 4 g cl := ⟨_, rfl⟩
            rw [← hr'] at HR4 ⊢
            have HR' : Hid (r' = r.mv k 4 g cl) := hr'
            clear hr4 hg4 hb4 hgl hr'
            go_wp2
            refine ⟨rfl, hK _ _ ?_⟩
            clear hK K
            refine Mix.one [false, false, false, false, false, false, false, false, false, false, true] 3 10 _ rfl rfl (by kernel_rfl) (by kernel_rfl) (fun K hK => ?_)
            simp only [Mix.pick]
            go_wp2_with (first | (refine wpList_store_rp (.tmp 2) (.tmp 14) rfl rfl (O + 1) rz r' rfl rfl hres rfl ?_))
            intro w5 hR5 k5
            replace c3 := k5.cell c3 (show ¬ O = O + 1 by omega)
            replace d2 := k5.cell d2 (show ¬ gg = O + 1 by omega)
            go_wp2
            refine ⟨rfl, hK _ _ ?_⟩
            clear hK K
            refine Mix.take [false, false, false, false, false, false, false, false, false, false, false, true, true, true] 0 (by kernel_rfl) (by kernel_rfl) (by decide) (by kernel_rfl) (fun K hK => ?_)
            simp only [Mix.pick]
            repeat (go_big_quiet_step (fail))
            refine wpQuiet_nil (hK _ ?_)
            clear hK K
            refine Mix.done (by kernel_rfl) ?_
            first | go_meet | (go_wp2; go_meet)
            obtain ⟨h1, h2⟩ := Two.laid Tw.out HB4.out HR4.out (fun a ha => by
              have e := HR'.out ▸ ha
              have e2 := Option.some.inj e
              subst e2
              exact .inr HG4.out) (fun q hq => .inl (mv_dblk r k 4 g cl HK.out q (HR'.out ▸ hq))) HH.out HAL.out k5
            have h3 := HR'.out
            subst h3
            exact ⟨g, cl, rfl, rfl, rfl, hR5, h1, Nat.le_trans Tw.out.bel.size HG4.out, Nat.lt_of_lt_of_le HGL.out k5.size, h2⟩
        · simp only [Mix.pick]
          go_wp2
          refine ⟨rfl, hK _ _ ?_⟩
          clear hK K
          refine Mix.one [true] 5 0 _ rfl rfl (by kernel_rfl) (by kernel_rfl) (fun K hK => ?_)
          simp only [Mix.pick]
          go_wp2_with (first | (refine wpList_load_rp (.tmp 1) rfl O r rfl hbox rfl ?_))
          go_wp2
          refine ⟨rfl, hK _ _ ?_⟩
          clear hK K
          refine Mix.one [false, false, true] 4 2 _ rfl rfl (by kernel_rfl) (by kernel_rfl) (fun K hK => ?_)
          simp only [Mix.pick]
          go_wp2_with fail
          refine Calls.mono (Q2.out wA Tw.out) ?_
          rintro e w4 ⟨g, cl, rfl, hr4, hg4, hgl, hb4⟩
          replace c3 := (hb4.cell (p := ⟨O, 3, none⟩) hOl).trans c3
          replace d2 := (hb4.cell (p := ⟨gg, off + k * 4 + 2, none⟩) hggl).trans d2
          replace hres := hres.below hb4
          have HR4 : Hid _ := hr4
          have HG4 : Hid _ := hg4
          have HB4 : Hid _ := hb4
          have HGL : Hid _ := hgl
          obtain ⟨r', hr'⟩ : ∃ r', r' = r.mv k 4 g cl := ⟨_, rfl⟩
          rw [← hr'] at HR4 ⊢
          have HR' : Hid (r' = r.mv k 4 g cl) := hr'
          clear hr4 hg4 hb4 hgl hr'
          go_wp2
          refine ⟨rfl, hK _ _ ?_⟩
          clear hK K
          refine Mix.one [false, false, false, false, false, false, false, false, false, false, true] 3 10 _ rfl rfl (by kernel_rfl) (by kernel_rfl) (fun K hK => ?_)
          simp only [Mix.pick]
          go_wp2_with (first | (refine wpList_store_rp (.tmp 2) (.tmp 14) rfl rfl (O + 1) rz r' rfl rfl hres rfl ?_))
          intro w5 hR5 k5
          replace c3 := k5.cell c3 (show ¬ O = O + 1 by omega)
          replace d2 := k5.cell d2 (show ¬ gg = O + 1 by omega)
          go_wp2
          refine ⟨rfl, hK _ _ ?_⟩
          clear hK K
          refine Mix.take [false, false, false, false, false, false, false, false, false, false, false, true, true, true] 0 (by kernel_rfl) (by kernel_rfl) (by decide) (by kernel_rfl) (fun K hK => ?_)
          simp only [Mix.pick]
          repeat (go_big_quiet_step (fail))
          refine wpQuiet_nil (hK _ ?_)
          clear hK K
          refine Mix.done (by kernel_rfl) ?_
          first | go_meet | (go_wp2; go_meet)
          obtain ⟨h1, h2⟩ := Two.laid Tw.out HB4.out HR4.out (fun a ha => by
            have e := HR'.out ▸ ha
            have e2 := Option.some.inj e
            subst e2
            exact .inr HG4.out) (fun q hq => .inl (mv_dblk r k 4 g cl HK.out q (HR'.out ▸ hq))) HH.out HAL.out k5
          have h3 := HR'.out
          subst h3
          exact ⟨g, cl, rfl, rfl, rfl, hR5, h1, Nat.le_trans Tw.out.bel.size HG4.out, Nat.lt_of_lt_of_le HGL.out k5.size, h2⟩
    case rest =>
    obtain ⟨g, cl, rfl, rfl, rfl, hR5, hok, hgw, hgl, hbw⟩ := hcut
    obtain ⟨wz, rfl⟩ : ∃ wz, wz = wc := ⟨_, rfl⟩
    clear Q2 HT3 hbox hres c3 d2
    go_wp2
    (try simp only [Exit.inBlock, Exit.then])
    refine bodyPost_ret (results_rp_tmp3 rfl _ _ (O + 1) _ rfl hR5) rfl ?_
    exact .inr ⟨k, g, cl, HK.out, HB.out, by rw [← HX2.out]; rfl, hok, hgw, hgl, hbw⟩
end Go.Proofs.Ythknkfggpdhdbaa
namespace Go.Proofs.Ythknkfggpdhdbaa
open Go.RowKit

/-- a buffer is another -/
def RV.pt (r : RV) (i : Nat) (x : RB) (g cl : Nat) : RV := { r with al := some ⟨g, 0, none⟩, cl := cl, L := r.L.set i x }
theorem pt_any (w : World) (r : RV) (h : RV.ok w r) (i : Nat) (hi : i < r.L.length) (x : RB) (hx : RB.ok w x) :
    Calls Try.prog 78 #[.agg r.cells, .int .i64 i, .agg #[.int .i64 x.pl, .int .i64 x.since, .int .i64 x.n, .slice x.a x.d.length x.c]] w fun e w' => ∃ g cl, e = .returned (.agg (r.pt i x g cl).cells) ∧ RV.ok w' (r.pt i x g cl) ∧ w.heap.size ≤ g ∧ Below w.heap.size w w' := by
  refine (put_any w r.rx r.tx r.size r.al r.cl r.now r.L h.bufs h.len i hi x hx).mono ?_
  rintro e w' ⟨g, cl, rfl, hB, hg, hb⟩
  refine ⟨g, cl, ?_, ⟨hB, by show (r.L.set i x).length ≤ _; rw [List.length_set]; exact h.len, h.now⟩, hg, hb⟩
  show _ = Ending.returned (.agg (rpCells r.rx r.tx r.size (some ⟨g, 0, none⟩) (r.L.set i x).length cl r.now))
  rw [List.length_set]
theorem pt_dblk (r : RV) (i : Nat) (x : RB) (g cl q : Nat) (h : (r.pt i x g cl).dblk q) : r.dblk q ∨ (x.d ≠ [] ∧ ∃ a, x.a = some a ∧ a.block = q) := by
  obtain ⟨y, hy, hd, ha⟩ := h
  rcases List.mem_or_eq_of_mem_set (show y ∈ r.L.set i x from hy) with h1 | h1
  · exact .inl ⟨y, h1, hd, ha⟩
  · subst h1; exact .inr ⟨hd, ha⟩
set_option maxRecDepth 100000 in
set_option maxHeartbeats 1600000 in
theorem takeR_any (w : World) (r : RV) (h : RV.ok w r) (hal : ∀ a, r.al = some a → a.block < w.heap.size) (hn : r.now + 1 ≤ 4611686018427387904) :
    Calls Try.prog 67 #[.agg r.cells] w fun e w' => (bst r.L 1 r.L.length < 0 ∧ e = .returned (.tuple #[.agg r.cells, .int .i64 0, .int .i64 33]) ∧ Below w.heap.size w w') ∨
      ∃ (k g cl g' cl' : Nat) (hk : k < r.L.length), bst r.L 1 r.L.length = (k : Int) ∧ e = .returned (.tuple #[.agg ((r.pt k ⟨r.L[k].pl, r.L[k].since, r.L[k].n, none, 0, []⟩ g' cl').mv k 4 g cl).cells, .int .i64 k, .int .i64 0]) ∧ RV.ok w' ((r.pt k ⟨r.L[k].pl, r.L[k].since, r.L[k].n, none, 0, []⟩ g' cl').mv k 4 g cl) ∧ w.heap.size ≤ g ∧ g < w'.heap.size ∧ Below w.heap.size w w' := by
  have T0 := two_new w r h
  obtain ⟨W, hW⟩ : ∃ W, W = (w.alloc (.cells r.cells 26)).alloc (.cells #[.int .i64 0, .int .i64 0, .int .i64 0, .slice none 0 0, .int .i64 0] 26) := ⟨_, rfl⟩
  obtain ⟨O, hO⟩ : ∃ O, O = w.heap.size := ⟨_, rfl⟩
  rw [← hW, ← hO] at T0
  obtain ⟨C, hC⟩ : ∃ C, C = r.cells := ⟨_, rfl⟩
  have HW : Hid ((w.alloc (.cells C 26)).alloc (.cells #[.int .i64 0, .int .i64 0, .int .i64 0, .slice none 0 0, .int .i64 0] 26) = W) := by rw [hC]; exact hW.symm
  have HO : Hid (w.heap.size = O) := hO.symm
  have Q1 : Hid _ := first_any W r.rx r.tx r.size r.al r.cl r.now r.L T0.ok.bufs T0.ok.len 1
  have hb2 := T0.box
  have HH : Hid _ := h
  have HAL : Hid _ := hal
  have HT : Hid _ := T0
  obtain ⟨B, hB⟩ : ∃ B, B = bst r.L 1 r.L.length := ⟨_, rfl⟩
  rw [← hB] at Q1
  have HB : Hid (bst r.L 1 r.L.length = B) := hB.symm
  have hbl := bst_lt r.L 1 r.L.length
  rw [← hB] at hbl
  rw [show #[Value.agg r.cells] = #[Value.agg C] from by rw [hC]]
  clear hW hC hO h hal hB T0
  go_enter Try.func67, Try.ntmps67
  go_upto_region 1 with fail
  rw [HW.out, HO.out]
  go_wp2_with (first | (refine wpList_load_rp (.tmp 1) rfl O r rfl hb2 rfl ?_))
  refine Calls.mono Q1.out ?_
  rintro e w3 ⟨rfl, hb3⟩
  have T3 := HT.out.old hb3
  have hbox := T3.box
  have hres := T3.res
  have HT3 : Hid _ := T3
  clear Q1 hb2 HT hb3 T3
  by_cases hneg : B < 0
  · have g1 : decide (B < 0) = true := decide_eq_true hneg
    go_wp2_with (first | (refine wpList_load_rp (.tmp 1) rfl O r rfl hbox rfl ?_) | (refine wpList_store_rp (.tmp 2) (.tmp 11) rfl rfl (O + 1) rz r rfl rfl hres rfl ?_))
    intro w5 hR5 k5
    have hfin : Below w.heap.size w w5 := by
      have ht := HT3.out
      exact ht.bel.trans (k5.below (fun q e => by have := ht.at'; omega) ht.bel.size)
    clear k5 hbox hres g1
    go_wp2
    (try simp only [Exit.inBlock, Exit.then])
    refine bodyPost_ret (results_rp_tmp2 rfl _ _ (O + 1) r rfl hR5) rfl ?_
    exact .inl ⟨by rw [HB.out]; exact hneg, rfl, hfin⟩
  · have g1 : decide (B < 0) = false := decide_eq_false hneg
    obtain ⟨k, rfl⟩ : ∃ k : Nat, B = (k : Int) := ⟨B.toNat, by omega⟩
    have hk : k < r.L.length := by omega
    obtain ⟨gg, off, hal, hggl, okx, d0, d1, d2, d3⟩ := HT3.out.ok.bufs.at k hk
    have c3 := hbox.c3
    rw [hal] at c3
    obtain ⟨x, hx⟩ : ∃ x, x = r.L[k] := ⟨_, rfl⟩
    rw [← hx] at okx d0 d1 d2 d3
    have HX : Hid (x = r.L[k]) := hx
    have HK : Hid _ := hk
    have HOK : Hid _ := okx
    obtain ⟨N, hN⟩ : ∃ N, N = r.L.length := ⟨_, rfl⟩
    rw [← hN] at c3
    have t0 : (0 : Int) ≤ (k : Int) := by omega
    have t1 : (k : Int) < (N : Int) := by omega
    have t2 : ((k : Int)).toNat = k := by omega
    clear hbl hneg hx hal hN okx
    go_upto_region 6 with fail
    obtain ⟨Bd, hBd⟩ : ∃ Bd, Bd = w3.heap.size := ⟨_, rfl⟩
    obtain ⟨W2, hW2⟩ : ∃ W2, W2 = w3.alloc (.cells #[.int .i64 x.pl, .int .i64 x.since, .int .i64 x.n, .slice none 0 0] 108) := ⟨_, rfl⟩
    have hbW : Below w3.heap.size w3 W2 := by rw [hW2]; exact (Below.refl _ _).alloc (Nat.le_refl _) _
    have T4 := HT3.out.old hbW
    have u : ∀ j, W2.cell? ⟨Bd, j, none⟩ = (#[.int .i64 x.pl, .int .i64 x.since, .int .i64 x.n, .slice none 0 0] : Array Value)[j]? := fun j => by rw [hW2, World.cell?_alloc_at _ _ _ _ hBd]
    have u0 : W2.cell? ⟨Bd, 0, none⟩ = some (.int .i64 x.pl) := by rw [u]; rfl
    have u1 : W2.cell? ⟨Bd, 1, none⟩ = some (.int .i64 x.since) := by rw [u]; rfl
    have u2 : W2.cell? ⟨Bd, 2, none⟩ = some (.int .i64 x.n) := by rw [u]; rfl
    have u3 : W2.cell? ⟨Bd, 3, none⟩ = some (.slice none 0 0) := by rw [u]; rfl
    rw [← hW2, ← hBd]
    have hbox4 := T4.box
    have hres4 := T4.res
    have HT4 : Hid _ := T4
    have Q2 : Hid _ := pt_any W2 r T4.ok k HK.out ⟨x.pl, x.since, x.n, none, 0, []⟩ ⟨.inl rfl, by simp, ⟨HOK.out.lt.1, HOK.out.lt.2.1, HOK.out.lt.2.2.1, Nat.zero_le _⟩⟩
    clear hW2 hBd u hbW T4 hbox hres d0 d1 d2 d3 c3 hggl
    go_wp2_with (first | (refine wpList_load_rp (.tmp 1) rfl O r rfl hbox4 rfl ?_))
    refine Calls.mono Q2.out ?_
    rintro e w5 ⟨g', cl', rfl, ok5, hg5, hb5⟩
    obtain ⟨r1, hr1⟩ : ∃ r1, r1 = r.pt k ⟨x.pl, x.since, x.n, none, 0, []⟩ g' cl' := ⟨_, rfl⟩
    rw [← hr1] at ok5 ⊢
    have HR1 : Hid _ := hr1
    have hbox5 := hbox4.below hb5
    have HOK5 : Hid _ := ok5
    have HG5 : Hid _ := hg5
    have HB5 : Hid _ := hb5
    clear Q2 hbox4 u0 u1 u2 u3 ok5 hg5 hr1
    go_wp2_with (first | (refine wpList_store_rp (.tmp 1) (.tmp 21) rfl rfl O r r1 rfl rfl hbox5 rfl ?_))
    intro w6 hbox6 k6
    have hres6 := (hres4.below hb5).ch k6 (show ¬ O + 1 = O by omega)
    have hdb : ∀ q, r1.dblk q → q < O := fun q hq => by
      rw [HR1.out] at hq
      rcases pt_dblk _ _ _ _ _ _ hq with h1 | ⟨h1, _⟩
      · have := HH.out.dlt q h1; have := HO.out; omega
      · exact absurd rfl h1
    have hO1 := hres4.lt
    have ok6 : RV.ok w6 r1 := HOK5.out.ch k6 (fun a ha e => by
      rw [HR1.out] at ha
      have e2 := Option.some.inj ha
      subst e2
      have e3 : g' = O := e
      have := HG5.out
      omega) (fun q hq e => by have := hdb q hq; omega)
    have hb6 : Below w.heap.size w w6 := (HT4.out.bel.trans (hb5.mono HT4.out.bel.size)).trans (k6.below (fun q e => by have := HT4.out.at'; omega) (by have := HT4.out.bel.size; have := hb5.size; omega))
    have hk1 : k < r1.L.length := by rw [HR1.out]; show k < (r.L.set k _).length; rw [List.length_set]; exact HK.out
    have Q3 : Hid _ := mv_any w6 r1 ok6 (by rw [HR1.out]; exact hn) k hk1 4 (by decide)
    have HB6 : Hid _ := hb6
    have HDB : Hid _ := hdb
    have HK1 : Hid _ := hk1
    clear hbox5 hres4 k6 hb5 hdb hb6 ok6 hk1 HOK5
    go_wp2_with (first | (refine wpList_load_rp (.tmp 1) rfl O r1 rfl hbox6 rfl ?_))
    refine Calls.mono Q3.out ?_
    rintro e w7 ⟨g, cl, rfl, ok7, hg7, hb7⟩
    obtain ⟨r2, hr2⟩ : ∃ r2, r2 = r1.mv k 4 g cl := ⟨_, rfl⟩
    rw [← hr2] at ok7 ⊢
    have HR2 : Hid _ := hr2
    have hres7 := hres6.below hb7
    have h06 := hres6.lt
    have HOK7 : Hid _ := ok7
    have HG7 : Hid (w6.heap.size ≤ g) := hg7
    have HB7 : Hid _ := hb7
    clear Q3 hbox6 hres6 ok7 hg7 hb7 hr2
    go_wp2_with (first | (refine wpList_store_rp (.tmp 2) (.tmp 24) rfl rfl (O + 1) rz r2 rfl rfl hres7 rfl ?_))
    intro w8 hR8 k8
    have ok8 : RV.ok w8 r2 := HOK7.out.ch k8 (fun a ha e => by
      rw [HR2.out] at ha
      have e2 := Option.some.inj ha
      subst e2
      have e3 : g = O + 1 := e
      have := HG7.out
      omega) (fun q hq e => by
      rw [HR2.out] at hq
      have := HDB.out q (mv_dblk r1 k 4 g cl HK1.out q hq)
      omega)
    have hfin : Below w.heap.size w w8 := (HB6.out.trans (HB7.out.mono HB6.out.size)).trans (k8.below (fun q e => by have := HT4.out.at'; omega) (by have := HB6.out.size; have := HB7.out.size; omega))
    have hgl : g < w8.heap.size := by
      have h9 := ok8
      rw [HR2.out] at h9
      exact mv_lt h9 HK1.out
    have hgw : w.heap.size ≤ g := Nat.le_trans HB6.out.size HG7.out
    clear k8 hres7
    go_wp2
    (try simp only [Exit.inBlock, Exit.then])
    refine bodyPost_ret (results_rp_tmp2 rfl _ _ (O + 1) r2 rfl hR8) rfl ?_
    have e1 := HR2.out
    have e2 := HR1.out
    have e3 := HX.out
    subst e1 e2 e3
    exact .inr ⟨k, g, cl, g', cl', HK.out, HB.out, rfl, ok8, hgw, hgl, hfin⟩
end Go.Proofs.Ythknkfggpdhdbaa
namespace Go.Proofs.Ythknkfggpdhdbaa
open Go.RowKit

set_option maxRecDepth 100000 in
set_option maxHeartbeats 1600000 in
theorem drainR_any (w : World) (r : RV) (h : RV.ok w r) (hal : ∀ a, r.al = some a → a.block < w.heap.size) (hn : r.now + 1 ≤ 4611686018427387904) :
    Calls Try.prog 72 #[.agg r.cells] w fun e w' => (bst r.L 5 r.L.length < 0 ∧ e = .returned (.tuple #[.agg r.cells, .slice none 0 0, .bool false]) ∧ Below w.heap.size w w') ∨
      ∃ (k g cl : Nat) (hk : k < r.L.length) (v : Value), bst r.L 5 r.L.length = (k : Int) ∧ e = .returned (.tuple #[.agg (r.mv k 1 g cl).cells, v, .bool true]) ∧ w'.ownsRow w.heap.size 5 1 v r.L[k].n ((toI (bp r.L[k].d r.L[k].n)).map (Value.int .u8)) ∧ RV.ok w' (r.mv k 1 g cl) ∧ w.heap.size ≤ g ∧ g < w'.heap.size ∧ Below w.heap.size w w' := by
  have T0 := two_new w r h
  obtain ⟨W, hW⟩ : ∃ W, W = (w.alloc (.cells r.cells 26)).alloc (.cells #[.int .i64 0, .int .i64 0, .int .i64 0, .slice none 0 0, .int .i64 0] 26) := ⟨_, rfl⟩
  obtain ⟨O, hO⟩ : ∃ O, O = w.heap.size := ⟨_, rfl⟩
  rw [← hW, ← hO] at T0
  obtain ⟨C, hC⟩ : ∃ C, C = r.cells := ⟨_, rfl⟩
  have HC : Hid (r.cells = C) := hC.symm
  have HW : Hid ((w.alloc (.cells C 26)).alloc (.cells #[.int .i64 0, .int .i64 0, .int .i64 0, .slice none 0 0, .int .i64 0] 26) = W) := by rw [hC]; exact hW.symm
  have HO : Hid (w.heap.size = O) := hO.symm
  have Q1 : Hid _ := first_any W r.rx r.tx r.size r.al r.cl r.now r.L T0.ok.bufs T0.ok.len 5
  have hb2 := T0.box
  have HH : Hid _ := h
  have HAL : Hid _ := hal
  have HT : Hid _ := T0
  obtain ⟨B, hB⟩ : ∃ B, B = bst r.L 5 r.L.length := ⟨_, rfl⟩
  rw [← hB] at Q1
  have HB : Hid (bst r.L 5 r.L.length = B) := hB.symm
  have hbl := bst_lt r.L 5 r.L.length
  rw [← hB] at hbl
  rw [show #[Value.agg r.cells] = #[Value.agg C] from by rw [hC]]
  clear hW hC hO h hal hB T0
  go_enter Try.func72, Try.ntmps72
  go_upto_region 1 with fail
  rw [HW.out, HO.out]
  go_wp2_with (first | (refine wpList_load_rp (.tmp 1) rfl O r rfl hb2 rfl ?_))
  refine Calls.mono Q1.out ?_
  rintro e w3 ⟨rfl, hb3⟩
  have T3 := HT.out.old hb3
  have hbox := T3.box
  have hres := T3.res
  have HT3 : Hid _ := T3
  clear Q1 hb2 HT hb3 T3
  by_cases hneg : B < 0
  · have g1 : decide (B < 0) = true := decide_eq_true hneg
    go_wp2_with (first | (refine wpList_load_rp (.tmp 1) rfl O r rfl hbox rfl ?_) | (refine wpList_store_rp (.tmp 2) (.tmp 11) rfl rfl (O + 1) rz r rfl rfl hres rfl ?_))
    intro w5 hR5 k5
    have hfin : Below w.heap.size w w5 := by
      have ht := HT3.out
      exact ht.bel.trans (k5.below (fun q e => by have := ht.at'; omega) ht.bel.size)
    clear k5 hbox hres g1
    go_wp2
    (try simp only [Exit.inBlock, Exit.then])
    refine bodyPost_ret (results_rp_tmp2 rfl _ _ (O + 1) r rfl hR5) rfl ?_
    exact .inl ⟨by rw [HB.out]; exact hneg, rfl, hfin⟩
  · have g1 : decide (B < 0) = false := decide_eq_false hneg
    obtain ⟨k, rfl⟩ : ∃ k : Nat, B = (k : Int) := ⟨B.toNat, by omega⟩
    have hk : k < r.L.length := by omega
    obtain ⟨gg, off, hal, hggl, okx, _, _, d2, _⟩ := HT3.out.ok.bufs.at k hk
    have c3 := hbox.c3
    rw [hal] at c3
    obtain ⟨x2, hx2⟩ : ∃ x2, x2 = r.L[k].n := ⟨_, rfl⟩
    rw [← hx2] at d2
    have HX2 : Hid (x2 = r.L[k].n) := hx2
    have HK : Hid _ := hk
    have hggO : gg < O := by have h1 := HAL.out _ hal; have h2 := HO.out; simp only at h1; omega
    have hn2 : x2 ≤ 65535 := by rw [hx2]; exact okx.lt.2.2.1
    obtain ⟨N, hN⟩ : ∃ N, N = r.L.length := ⟨_, rfl⟩
    rw [← hN] at c3
    have t0 : (0 : Int) ≤ (k : Int) := by omega
    have t1 : (k : Int) < (N : Int) := by omega
    have t2 : ((k : Int)).toNat = k := by omega
    obtain ⟨DV, hDV⟩ : ∃ DV, DV = (toI (bp r.L[k].d x2)).map (Value.int .u8) := ⟨_, rfl⟩
    have HDV : Hid (DV = (toI (bp r.L[k].d x2)).map (Value.int .u8)) := hDV
    clear hbl hneg hx2 hal hN
    go_upto_region 4 with fail
    go_cut [6] (fun v wx => wx.ownsRow (O + 2) 5 1 v x2 DV ∧ Two w wx O r)
    case first =>
      refine Mix.start (by kernel_rfl) ?_
      obtain ⟨wA, hwA⟩ : ∃ wA, wA = w3.drew := ⟨_, rfl⟩
      have Tw : Hid (Two w wA O r) := by rw [hwA]; exact HT3.out.old (Below.refl _ _).drew
      replace c3 : wA.cell? ⟨O, 3, none⟩ = some (.slice (some ⟨gg, off, none⟩) N r.cl) := by rw [hwA]; exact c3
      replace d2 : wA.cell? ⟨gg, off + k * 4 + 2, none⟩ = some (.int .i64 (x2 : Int)) := by rw [hwA]; exact d2
      replace hbox := Tw.out.box
      replace hres := Tw.out.res
      have hA2 : O + 2 ≤ wA.heap.size := hres.lt
      have Q2 : Hid (Calls Try.prog 75 #[.agg r.cells, .int .i64 k, .int .i64 x2] wA fun e w' => ∃ v, e = .returned v ∧ w'.ownsRow (O + 2) 5 1 v x2 DV ∧ Below wA.heap.size wA w') := (bytesR_any wA r Tw.out.ok k HK.out x2 hn2).mono (by
        rintro e w' ⟨v, h1, h2, h3⟩
        exact ⟨v, h1, by rw [HDV.out]; exact owns_mono h2 hA2, h3⟩)
      rw [← hwA]
      clear hwA g1 hDV
      refine Mix.take [false, true, true, false, true] 7 (by kernel_rfl) (by kernel_rfl) (by decide) (by kernel_rfl) (fun K hK => ?_)
      simp only [Mix.pick]
      repeat (go_big_quiet_step (fail))
      refine wpQuiet_nil (hK _ ?_)
      clear hK K
      refine Mix.pair [true] [false, false, false, true] 6 0 3 _ _ rfl rfl rfl rfl (by kernel_rfl) (by kernel_rfl) (fun K hK => ?_) (fun K hK => ?_)
      · simp only [Mix.pick]
        go_wp2_with (first | (refine wpList_load_rp (.tmp 1) rfl O r rfl hbox rfl ?_))
        go_wp2
        refine ⟨rfl, hK _ _ ?_⟩
        clear hK K
        refine Mix.one [false, false, false, true] 5 3 _ rfl rfl (by kernel_rfl) (by kernel_rfl) (fun K hK => ?_)
        simp only [Mix.pick]
        go_wp2
        refine ⟨rfl, hK _ _ ?_⟩
        clear hK K
        refine Mix.take [false, false, false, false, false, true, true] 3 (by kernel_rfl) (by kernel_rfl) (by decide) (by kernel_rfl) (fun K hK => ?_)
        simp only [Mix.pick]
        repeat (go_big_quiet_step (fail))
        refine wpQuiet_nil (hK _ ?_)
        clear hK K
        refine Mix.one [false, false, false, false, false, false, false, true] 2 7 _ rfl rfl (by kernel_rfl) (by kernel_rfl) (fun K hK => ?_)
        simp only [Mix.pick]
        go_wp2
        refine ⟨rfl, hK _ _ ?_⟩
        clear hK K
        refine Mix.one [false, false, false, false, false, false, false, false, true] 1 8 _ rfl rfl (by kernel_rfl) (by kernel_rfl) (fun K hK => ?_)
        simp only [Mix.pick]
        go_wp2_with fail
        refine Calls.mono Q2.out ?_
        rintro e w4 ⟨v, rfl, hv4, hb4⟩
        clear Q2
        go_wp2
        refine ⟨rfl, hK _ _ ?_⟩
        clear hK K
        refine Mix.take [false, false, false, false, false, false, false, false, false, true] 0 (by kernel_rfl) (by kernel_rfl) (by decide) (by kernel_rfl) (fun K hK => ?_)
        simp only [Mix.pick]
        repeat (go_big_quiet_step (fail))
        refine wpQuiet_nil (hK _ ?_)
        clear hK K
        refine Mix.done (by kernel_rfl) ?_
        first | go_meet | (go_wp2; go_meet)
        exact ⟨hv4, Tw.out.old hb4⟩
      · simp only [Mix.pick]
        go_wp2
        refine ⟨rfl, hK _ _ ?_⟩
        clear hK K
        refine Mix.take [false, false, false, false, false, true, true] 4 (by kernel_rfl) (by kernel_rfl) (by decide) (by kernel_rfl) (fun K hK => ?_)
        simp only [Mix.pick]
        repeat (go_big_quiet_step (fail))
        refine wpQuiet_nil (hK _ ?_)
        clear hK K
        refine Mix.pair [true] [false, false, false, false, false, false, false, true] 3 0 7 _ _ rfl rfl rfl rfl (by kernel_rfl) (by kernel_rfl) (fun K hK => ?_) (fun K hK => ?_)
        · simp only [Mix.pick]
          go_wp2_with (first | (refine wpList_load_rp (.tmp 1) rfl O r rfl hbox rfl ?_))
          go_wp2
          refine ⟨rfl, hK _ _ ?_⟩
          clear hK K
          refine Mix.one [false, false, false, false, false, false, false, true] 2 7 _ rfl rfl (by kernel_rfl) (by kernel_rfl) (fun K hK => ?_)
          simp only [Mix.pick]
          go_wp2
          refine ⟨rfl, hK _ _ ?_⟩
          clear hK K
          refine Mix.one [false, false, false, false, false, false, false, false, true] 1 8 _ rfl rfl (by kernel_rfl) (by kernel_rfl) (fun K hK => ?_)
          simp only [Mix.pick]
          go_wp2_with fail
          refine Calls.mono Q2.out ?_
          rintro e w4 ⟨v, rfl, hv4, hb4⟩
          clear Q2
          go_wp2
          refine ⟨rfl, hK _ _ ?_⟩
          clear hK K
          refine Mix.take [false, false, false, false, false, false, false, false, false, true] 0 (by kernel_rfl) (by kernel_rfl) (by decide) (by kernel_rfl) (fun K hK => ?_)
          simp only [Mix.pick]
          repeat (go_big_quiet_step (fail))
          refine wpQuiet_nil (hK _ ?_)
          clear hK K
          refine Mix.done (by kernel_rfl) ?_
          first | go_meet | (go_wp2; go_meet)
          exact ⟨hv4, Tw.out.old hb4⟩
        · simp only [Mix.pick]
          go_wp2
          refine ⟨rfl, hK _ _ ?_⟩
          clear hK K
          refine Mix.one [true] 2 0 _ rfl rfl (by kernel_rfl) (by kernel_rfl) (fun K hK => ?_)
          simp only [Mix.pick]
          go_wp2_with (first | (refine wpList_load_rp (.tmp 1) rfl O r rfl hbox rfl ?_))
          go_wp2
          refine ⟨rfl, hK _ _ ?_⟩
          clear hK K
          refine Mix.one [false, false, false, false, false, false, false, false, true] 1 8 _ rfl rfl (by kernel_rfl) (by kernel_rfl) (fun K hK => ?_)
          simp only [Mix.pick]
          go_wp2_with fail
          refine Calls.mono Q2.out ?_
          rintro e w4 ⟨v, rfl, hv4, hb4⟩
          clear Q2
          go_wp2
          refine ⟨rfl, hK _ _ ?_⟩
          clear hK K
          refine Mix.take [false, false, false, false, false, false, false, false, false, true] 0 (by kernel_rfl) (by kernel_rfl) (by decide) (by kernel_rfl) (fun K hK => ?_)
          simp only [Mix.pick]
          repeat (go_big_quiet_step (fail))
          refine wpQuiet_nil (hK _ ?_)
          clear hK K
          refine Mix.done (by kernel_rfl) ?_
          first | go_meet | (go_wp2; go_meet)
          exact ⟨hv4, Tw.out.old hb4⟩
    case rest =>
    obtain ⟨hv4, T4⟩ := hcut
    obtain ⟨wz, rfl⟩ : ∃ wz, wz = wc := ⟨_, rfl⟩
    have hbox4 := T4.box
    have hres4 := T4.res
    have HT4 : Hid _ := T4
    have Q3 : Hid _ := mv_any wz r T4.ok hn k HK.out 1 (by decide)
    have HV4 : Hid _ := hv4
    obtain ⟨av, cv, rfl⟩ := owns_shape hv4
    clear hbox hres c3 d2 T4 hv4 HT3 g1
    go_wp2_with (first | (refine wpList_load_rp (.tmp 1) rfl O r rfl hbox4 rfl ?_))
    refine Calls.mono Q3.out ?_
    rintro e w7 ⟨g, cl, rfl, ok7, hg7, hb7⟩
    obtain ⟨r2, hr2⟩ : ∃ r2, r2 = r.mv k 1 g cl := ⟨_, rfl⟩
    rw [← hr2] at ok7 ⊢
    have HR2 : Hid _ := hr2
    have hres7 := hres4.below hb7
    have HOK7 : Hid _ := ok7
    have HG7 : Hid (wz.heap.size ≤ g) := hg7
    have HB7 : Hid _ := hb7
    clear Q3 hbox4 hres4 ok7 hg7 hb7 hr2
    go_wp2_with (first | (refine wpList_store_rp (.tmp 2) (.tmp 23) rfl rfl (O + 1) rz r2 rfl rfl hres7 rfl ?_))
    intro w8 hR8 k8
    obtain ⟨ok8, hfin⟩ := Two.laid HT4.out HB7.out HOK7.out (fun a ha => by
      have e := HR2.out ▸ ha
      have e2 := Option.some.inj e
      subst e2
      exact .inr HG7.out) (fun q hq => .inl (mv_dblk r k 1 g cl HK.out q (HR2.out ▸ hq))) HH.out HAL.out k8
    have hgl : g < w8.heap.size := by
      have h9 := ok8
      rw [HR2.out] at h9
      exact mv_lt h9 HK.out
    have hgw : w.heap.size ≤ g := Nat.le_trans HT4.out.bel.size HG7.out
    have hv8 : w8.ownsRow w.heap.size 5 1 (.slice av x2 cv) x2 DV := by
      have h1 := (Ch.ofBelow (S := fun _ => False) HB7.out).owns HV4.out (fun _ _ => id)
      have h2 := k8.owns h1 (fun q hq e => by
        have := (World.ownsRow.lt HV4.out q hq).1
        omega)
      exact owns_mono h2 (by have := HO.out; omega)
    have HV8 : Hid _ := hv8
    clear k8 hres7 hv8
    go_wp2
    (try simp only [Exit.inBlock, Exit.then])
    refine bodyPost_ret (results_rp_tmp2 rfl _ _ (O + 1) r2 rfl hR8) rfl ?_
    have e1 := HR2.out
    have e2 := HX2.out
    subst e1
    refine .inr ⟨k, g, cl, HK.out, .slice av x2 cv, HB.out, rfl, ?_, ok8, hgw, hgl, hfin⟩
    have h9 := HV8.out
    rw [HDV.out] at h9
    subst e2
    exact h9
end Go.Proofs.Ythknkfggpdhdbaa
namespace Go.Proofs.Ythknkfggpdhdbaa
open Go.RowKit

theorem ov_max (old b : List Nat) : (ov old b old.length).length = max b.length old.length := by
  by_cases h : b.length ≤ old.length
  · rw [ov_len old b _ h (Nat.le_refl _)]; omega
  · rw [ov_zero old b _ (by omega)]; omega
theorem ov_256 (old b : List Nat) (k : Nat) (h1 : ∀ x ∈ old, x < 256) (h2 : ∀ x ∈ b, x < 256) : ∀ x ∈ ov old b k, x < 256 := by
  intro x hx
  rcases List.mem_append.1 hx with h | h
  · exact h2 x h
  · exact h1 x (List.mem_of_mem_take (List.mem_of_mem_drop h))
/-- what Arrive answers -/
def aR (r : RV) (n : Nat) : Int := if 65535 < n then 2 else if r.size < n then 30 else if bst r.L 2 r.L.length < 0 then 31 else 0
set_option maxRecDepth 100000 in
set_option maxHeartbeats 3200000 in
theorem arriveR_any (w : World) (r : RV) (h : RV.ok w r) (hal : ∀ a, r.al = some a → a.block < w.heap.size) (hn : r.now + 1 ≤ 4611686018427387904) (fa : Option Addr) (fc : Nat) (fr : List Nat) (hsf : Seg .u8 w fa (toI fr)) (h256 : ∀ x ∈ fr, x < 256) :
    Calls Try.prog 63 #[.agg r.cells, .slice fa fr.length fc] w fun e w' => (aR r fr.length ≠ 0 ∧ e = .returned (.tuple #[.agg r.cells, .int .i64 (aR r fr.length)]) ∧ Below w.heap.size w w') ∨
      ∃ (k g cl g' cl' cv : Nat) (av : Option Addr) (hk : k < r.L.length), aR r fr.length = 0 ∧ bst r.L 2 r.L.length = (k : Int) ∧ e = .returned (.tuple #[.agg ((r.pt k ⟨r.L[k].pl, r.L[k].since, fr.length, av, cv, ov r.L[k].d fr r.L[k].d.length⟩ g' cl').mv k 3 g cl).cells, .int .i64 0]) ∧ RV.ok w' ((r.pt k ⟨r.L[k].pl, r.L[k].since, fr.length, av, cv, ov r.L[k].d fr r.L[k].d.length⟩ g' cl').mv k 3 g cl) ∧ (∀ a, av = some a → w.heap.size ≤ a.block) ∧ w.heap.size ≤ g ∧ g < w'.heap.size ∧ Below w.heap.size w w' := by
  have T0 := two_new w r h
  obtain ⟨W, hW⟩ : ∃ W, W = (w.alloc (.cells r.cells 26)).alloc (.cells #[.int .i64 0, .int .i64 0, .int .i64 0, .slice none 0 0, .int .i64 0] 26) := ⟨_, rfl⟩
  obtain ⟨O, hO⟩ : ∃ O, O = w.heap.size := ⟨_, rfl⟩
  rw [← hW, ← hO] at T0
  obtain ⟨C, hC⟩ : ∃ C, C = r.cells := ⟨_, rfl⟩
  have HW : Hid ((w.alloc (.cells C 26)).alloc (.cells #[.int .i64 0, .int .i64 0, .int .i64 0, .slice none 0 0, .int .i64 0] 26) = W) := by rw [hC]; exact hW.symm
  have HO : Hid (w.heap.size = O) := hO.symm
  have Q1 : Hid _ := first_any W r.rx r.tx r.size r.al r.cl r.now r.L T0.ok.bufs T0.ok.len 2
  have hb2 := T0.box
  have HH : Hid _ := h
  have HAL : Hid _ := hal
  have HT : Hid _ := T0
  obtain ⟨B, hB⟩ : ∃ B, B = bst r.L 2 r.L.length := ⟨_, rfl⟩
  rw [← hB] at Q1
  have HB : Hid (bst r.L 2 r.L.length = B) := hB.symm
  have hbl := bst_lt r.L 2 r.L.length
  rw [← hB] at hbl
  obtain ⟨fn, hfn⟩ : ∃ fn, fn = fr.length := ⟨_, rfl⟩
  have HFN : Hid (fr.length = fn) := hfn.symm
  have HSF : Hid _ := hsf
  have H256 : Hid _ := h256
  rw [show #[Value.agg r.cells, .slice fa fr.length fc] = #[Value.agg C, .slice fa fn fc] from by rw [hC, hfn]]
  clear hW hC hO h hal hB T0 hfn hsf h256
  go_enter Try.func63, Try.ntmps63
  go_upto_region 1 with fail
  rw [HW.out, HO.out]
  go_wp2_with (first | (refine wpList_load_rp (.tmp 2) rfl O r rfl hb2 rfl ?_))
  refine Calls.mono Q1.out ?_
  rintro e w3 ⟨rfl, hb3⟩
  have T3 := HT.out.old hb3
  have hbox := T3.box
  have hres := T3.res
  have HT3 : Hid _ := T3
  clear Q1 hb2 HT hb3 T3
  have refuse : ∀ (X : Int) (w5 : World), aR r fr.length = X → X ≠ 0 → RpAt w5 (O + 1) r → Ch (fun q => q = O + 1) w3 w5 → (aR r fr.length ≠ 0 ∧ Ending.returned (.tuple #[.agg r.cells, .int .i64 X]) = .returned (.tuple #[.agg r.cells, .int .i64 (aR r fr.length)]) ∧ Below w.heap.size w w5) := fun X w5 e1 e2 _ k5 => ⟨by rw [e1]; exact e2, by rw [e1], by
    have ht := HT3.out
    exact ht.bel.trans (k5.below (fun q e => by have := ht.at'; omega) ht.bel.size)⟩
  have HREF : Hid _ := refuse
  have cs := hbox.c2
  clear refuse
  by_cases hL1 : 65535 < fn
  · have g1 : decide (65535 < (fn : Int)) = true := decide_eq_true (by omega)
    have g2 : decide (65535 < fn) = true := decide_eq_true hL1
    have e1 : aR r fr.length = 2 := by unfold aR; rw [HFN.out, if_pos hL1]
    have HE1 : Hid _ := e1
    clear e1 hL1
    go_wp2_with (first | (refine wpList_load_rp (.tmp 2) rfl O r rfl hbox rfl ?_) | (refine wpList_store_rp (.tmp 4) (.tmp 14) rfl rfl (O + 1) rz r rfl rfl hres rfl ?_))
    intro w5 hR5 k5
    have hfin := HREF.out 2 w5 HE1.out (by decide) hR5 k5
    clear k5 hbox hres g1 g2
    go_wp2
    (try simp only [Exit.inBlock, Exit.then])
    refine bodyPost_ret (results_rp_tmp rfl _ _ (O + 1) r rfl hR5) rfl ?_
    exact .inl hfin
  have g1 : decide (65535 < fn) = false := decide_eq_false hL1
  have g1' : decide ((65535 : Int) < (fn : Int)) = false := decide_eq_false (by omega)
  by_cases hL2 : r.size < fn
  · have g2 : decide (r.size < fn) = true := decide_eq_true hL2
    have g2' : decide ((r.size : Int) < (fn : Int)) = true := decide_eq_true (by omega)
    have e1 : aR r fr.length = 30 := by unfold aR; rw [HFN.out, if_neg hL1, if_pos hL2]
    have HE1 : Hid _ := e1
    clear e1 hL1 hL2
    go_wp2_with (first | (refine wpList_load_rp (.tmp 2) rfl O r rfl hbox rfl ?_) | (refine wpList_store_rp (.tmp 4) (.tmp 21) rfl rfl (O + 1) rz r rfl rfl hres rfl ?_))
    intro w5 hR5 k5
    have hfin := HREF.out 30 w5 HE1.out (by decide) hR5 k5
    clear k5 hbox hres g1 g2
    go_wp2
    (try simp only [Exit.inBlock, Exit.then])
    refine bodyPost_ret (results_rp_tmp rfl _ _ (O + 1) r rfl hR5) rfl ?_
    exact .inl hfin
  have g2 : decide (r.size < fn) = false := decide_eq_false hL2
  have g2' : decide ((r.size : Int) < (fn : Int)) = false := decide_eq_false (by omega)
  by_cases hneg : B < 0
  · have g3 : decide (B < 0) = true := decide_eq_true hneg
    have e1 : aR r fr.length = 31 := by unfold aR; rw [HFN.out, if_neg hL1, if_neg hL2, HB.out, if_pos hneg]
    have HE1 : Hid _ := e1
    clear e1 hL1 hL2
    go_wp2_with (first | (refine wpList_load_rp (.tmp 2) rfl O r rfl hbox rfl ?_) | (refine wpList_store_rp (.tmp 4) (.tmp 25) rfl rfl (O + 1) rz r rfl rfl hres rfl ?_))
    intro w5 hR5 k5
    have hfin := HREF.out 31 w5 HE1.out (by decide) hR5 k5
    clear k5 hbox hres g1 g2 g3
    go_wp2
    (try simp only [Exit.inBlock, Exit.then])
    refine bodyPost_ret (results_rp_tmp rfl _ _ (O + 1) r rfl hR5) rfl ?_
    exact .inl hfin
  have g3 : decide (B < 0) = false := decide_eq_false hneg
  have HE0 : Hid (aR r fr.length = 0) := by show _ = _; unfold aR; rw [HFN.out, if_neg hL1, if_neg hL2, HB.out, if_neg hneg]
  obtain ⟨k, rfl⟩ : ∃ k : Nat, B = (k : Int) := ⟨B.toNat, by omega⟩
  have hk : k < r.L.length := by omega
  obtain ⟨gg, off, hal, hggl, okx, d0, d1, d2, d3⟩ := HT3.out.ok.bufs.at k hk
  have c3 := hbox.c3
  rw [hal] at c3
  obtain ⟨x, hx⟩ : ∃ x, x = r.L[k] := ⟨_, rfl⟩
  rw [← hx] at okx d0 d1 d2 d3
  have HX : Hid (x = r.L[k]) := hx
  have HK : Hid _ := hk
  have HOK : Hid _ := okx
  obtain ⟨N, hN⟩ : ∃ N, N = r.L.length := ⟨_, rfl⟩
  rw [← hN] at c3
  have t0 : (0 : Int) ≤ (k : Int) := by omega
  have t1 : (k : Int) < (N : Int) := by omega
  have t2 : ((k : Int)).toNat = k := by omega
  have hf65 : fn ≤ 65535 := by omega
  clear hbl hneg hx hal hN okx hL1 hL2 HREF
  go_upto_region 9 with fail
  obtain ⟨Bd, hBd⟩ : ∃ Bd, Bd = w3.heap.size := ⟨_, rfl⟩
  obtain ⟨xl, hxl⟩ : ∃ xl, xl = x.d.length := ⟨_, rfl⟩
  obtain ⟨W2, hW2⟩ : ∃ W2, W2 = w3.alloc (.cells #[.int .i64 x.pl, .int .i64 x.since, .int .i64 x.n, .slice x.a x.d.length x.c] 108) := ⟨_, rfl⟩
  have hbW : Below w3.heap.size w3 W2 := by rw [hW2]; exact (Below.refl _ _).alloc (Nat.le_refl _) _
  have T4 := HT3.out.old hbW
  have kB : W2.heap[Bd]? = some (.cells #[.int .i64 x.pl, .int .i64 x.since, .int .i64 x.n, .slice x.a xl x.c] 108) := by rw [hW2, hBd, hxl]; exact heap_alloc_new _ _
  have u3 : W2.cell? ⟨Bd, 3, none⟩ = some (.slice x.a xl x.c) := by simp [World.cell?, kB]
  have hBO : O + 1 < Bd := by rw [hBd]; exact HT3.out.res.lt
  have hBW : Bd < W2.heap.size := World.block_lt_of_cell? W2 _ u3
  rw [← hW2, ← hBd]
  have HT4 : Hid _ := T4
  have Q2 : Hid _ := laid_any W2 x.a x.c x.d fa fc fr (Seg.old HOK.out.seg hbW) (Seg.old HSF.out T4.bel) HOK.out.lt.2.2.2 (by rw [HFN.out]; exact hf65)
  rw [HFN.out, ← hxl] at Q2
  obtain ⟨M, hM⟩ : ∃ M, M = max fn xl := ⟨_, rfl⟩
  rw [← hM] at Q2
  have HXL : Hid (x.d.length = xl) := hxl.symm
  have HM : Hid (M = max fn xl) := hM
  obtain ⟨Y, hY⟩ : ∃ Y, Y = ov x.d fr xl := ⟨_, rfl⟩
  rw [← hY] at Q2
  have HY : Hid (Y = ov x.d fr xl) := hY
  clear hW2 hBd hbW T4 hbox hres d0 d1 d2 d3 c3 hggl hxl hM cs hY
  go_wp2_with fail
  refine Calls.mono Q2.out ?_
  rintro e w5 ⟨v, rfl, hv5, hb5⟩
  have mB : w5.heap[Bd]? = some (.cells #[.int .i64 x.pl, .int .i64 x.since, .int .i64 x.n, .slice x.a xl x.c] 108) := (hb5.block Bd hBW).trans kB
  obtain ⟨av, cv, rfl⟩ := owns_shape hv5
  have p3 : w5.cell? ⟨Bd, 3, none⟩ = some (.slice x.a xl x.c) := by simp [World.cell?, mB]
  have q3 : w5.frozen? ⟨Bd, 3, none⟩ = false := by simp [World.frozen?, mB]
  have p2 : w5.cell? ⟨Bd, 2, none⟩ = some (.int .i64 x.n) := by simp [World.cell?, mB]
  have q2 : w5.frozen? ⟨Bd, 2, none⟩ = false := by simp [World.frozen?, mB]
  have G0 := heap_setCell_same w5 Bd 3 _ _ (.slice av M cv) mB
  have G1 := heap_setCell_same _ Bd 2 _ _ (.int .i64 (fn : Int)) G0
  have k6 : Ch (fun q => q = Bd) w5 ((w5.setCell ⟨Bd, 3, none⟩ (.slice av M cv)).setCell ⟨Bd, 2, none⟩ (.int .i64 (fn : Int))) := ((Ch.refl (fun q => q = Bd) w5).set ⟨Bd, 3, none⟩ _ rfl).set ⟨Bd, 2, none⟩ _ rfl
  have HV5 : Hid _ := hv5
  have HB5 : Hid _ := hb5
  clear Q2 u3 kB hv5 hb5 mB
  go_upto_region 11 with fail
  obtain ⟨w6, hw6⟩ : ∃ w6, w6 = (w5.setCell ⟨Bd, 3, none⟩ (.slice av M cv)).setCell ⟨Bd, 2, none⟩ (.int .i64 (fn : Int)) := ⟨_, rfl⟩
  rw [← hw6] at k6 G1 ⊢
  have mB6 : w6.heap[Bd]? = some (.cells #[.int .i64 x.pl, .int .i64 x.since, .int .i64 fn, .slice av M cv] 108) := by simpa using G1
  have u0 : w6.cell? ⟨Bd, 0, none⟩ = some (.int .i64 x.pl) := by simp [World.cell?, mB6]
  have u1 : w6.cell? ⟨Bd, 1, none⟩ = some (.int .i64 x.since) := by simp [World.cell?, mB6]
  have u2 : w6.cell? ⟨Bd, 2, none⟩ = some (.int .i64 fn) := by simp [World.cell?, mB6]
  have u3 : w6.cell? ⟨Bd, 3, none⟩ = some (.slice av M cv) := by simp [World.cell?, mB6]
  have T5 := HT4.out.old HB5.out
  have hwO := HO.out
  have ok6 : RV.ok w6 r := T5.ok.ch k6 (fun a ha e => by have h1 := HAL.out a ha; have e' : a.block = Bd := e; omega) (fun q hq e => by have h1 := HH.out.dlt q hq; omega)
  have hb56 : Below W2.heap.size W2 w5 := HB5.out
  have T6 : Two w w6 O r := ⟨T5.box.ch k6 (by omega), T5.res.ch k6 (by omega), T5.bel.trans (k6.below (fun q e => by omega) T5.bel.size), ok6, T5.at'⟩
  have hv6 : w6.ownsRow W2.heap.size 5 1 (.slice av M cv) M ((toI Y).map (Value.int .u8)) := k6.owns HV5.out (fun q hq e => by have := (World.ownsRow.lt HV5.out q hq).1; omega)
  have hYl : Y.length = M := by rw [HY.out, HM.out, ← HXL.out, ov_max, HFN.out]
  have hYs : Seg .u8 w6 av (toI Y) := by
    obtain ⟨aa, cc, e1, sg, _⟩ := owns_seg hv6
    have e2 : av = aa := (Value.slice.inj e1).1
    rw [e2]; exact sg
  have okY : RB.ok w6 ⟨x.pl, x.since, fn, av, cv, Y⟩ := ⟨hYs, by rw [HY.out]; exact ov_256 _ _ _ HOK.out.h256 H256.out, ⟨HOK.out.lt.1, HOK.out.lt.2.1, hf65, by show Y.length ≤ _; rw [hYl, HM.out, ← HXL.out]; have := HOK.out.lt.2.2.2; omega⟩⟩
  have Q3 : Hid _ := pt_any w6 r ok6 k HK.out ⟨x.pl, x.since, fn, av, cv, Y⟩ okY
  simp only at Q3
  rw [hYl] at Q3
  have hbox6 := T6.box
  have hres6 := T6.res
  have HT6 : Hid _ := T6
  have HAV : Hid (∀ a, av = some a → W2.heap.size ≤ a.block) := fun a ha => (World.ownsRow.lt hv6 a.block (by rw [ha]; rfl)).1
  have HYL : Hid (Y.length = M) := hYl
  clear G0 G1 hw6 mB6 T5 T6 ok6 okY hYs hv6 k6 p3 q3 p2 q2 hYl hwO hb56
  go_wp2_with (first | (refine wpList_load_rp (.tmp 2) rfl O r rfl hbox6 rfl ?_))
  refine Calls.mono Q3.out ?_
  rintro e w7 ⟨g', cl', rfl, ok7, hg7, hb7⟩
  obtain ⟨r1, hr1⟩ : ∃ r1, r1 = r.pt k ⟨x.pl, x.since, fn, av, cv, Y⟩ g' cl' := ⟨_, rfl⟩
  rw [← hr1] at ok7 ⊢
  have HR1 : Hid _ := hr1
  have hbox7 := hbox6.below hb7
  have HOK7 : Hid _ := ok7
  have HG7 : Hid (w6.heap.size ≤ g') := hg7
  clear Q3 hbox6 u0 u1 u2 u3 ok7 hg7 hr1
  go_wp2_with (first | (refine wpList_store_rp (.tmp 2) (.tmp 42) rfl rfl O r r1 rfl rfl hbox7 rfl ?_))
  intro w8 hbox8 k8
  have hres8 := (hres6.below hb7).ch k8 (show ¬ O + 1 = O by omega)
  have hdb : ∀ q, r1.dblk q → q < O ∨ W2.heap.size ≤ q := fun q hq => by
    rw [HR1.out] at hq
    rcases pt_dblk _ _ _ _ _ _ hq with h1 | ⟨_, a, h2, h3⟩
    · have := HH.out.dlt q h1; have := HO.out; exact .inl (by omega)
    · have := HAV.out a h2; exact .inr (by omega)
  have hO1 := hres6.lt
  have ok8 : RV.ok w8 r1 := HOK7.out.ch k8 (fun a ha e => by
    rw [HR1.out] at ha
    have e2 := Option.some.inj ha
    subst e2
    have e3 : g' = O := e
    have := HG7.out
    omega) (fun q hq e => by have := hdb q hq; omega)
  have hb8 : Below w.heap.size w w8 := (HT6.out.bel.trans (hb7.mono HT6.out.bel.size)).trans (k8.below (fun q e => by have := HT6.out.at'; omega) (by have := HT6.out.bel.size; have := hb7.size; omega))
  have hk1 : k < r1.L.length := by rw [HR1.out]; show k < (r.L.set k _).length; rw [List.length_set]; exact HK.out
  have Q4 : Hid _ := mv_any w8 r1 ok8 (by rw [HR1.out]; exact hn) k hk1 3 (by decide)
  have HB8 : Hid _ := hb8
  have HDB : Hid _ := hdb
  have HK1 : Hid _ := hk1
  clear hbox7 hres6 k8 hb7 hdb hb8 ok8 hk1 HOK7
  go_wp2_with (first | (refine wpList_load_rp (.tmp 2) rfl O r1 rfl hbox8 rfl ?_))
  refine Calls.mono Q4.out ?_
  rintro e w9 ⟨g, cl, rfl, ok9, hg9, hb9⟩
  obtain ⟨r2, hr2⟩ : ∃ r2, r2 = r1.mv k 3 g cl := ⟨_, rfl⟩
  rw [← hr2] at ok9 ⊢
  have HR2 : Hid _ := hr2
  have hres9 := hres8.below hb9
  have h08 := hres8.lt
  have HOK9 : Hid _ := ok9
  have HG9 : Hid (w8.heap.size ≤ g) := hg9
  have HB9 : Hid _ := hb9
  clear Q4 hbox8 hres8 ok9 hg9 hb9 hr2
  go_wp2_with (first | (refine wpList_store_rp (.tmp 4) (.tmp 45) rfl rfl (O + 1) rz r2 rfl rfl hres9 rfl ?_))
  intro wF hRF kF
  have okF : RV.ok wF r2 := HOK9.out.ch kF (fun a ha e => by
    rw [HR2.out] at ha
    have e2 := Option.some.inj ha
    subst e2
    have e3 : g = O + 1 := e
    have := HG9.out
    omega) (fun q hq e => by
    rw [HR2.out] at hq
    have := HDB.out q (mv_dblk r1 k 3 g cl HK1.out q hq)
    omega)
  have hfin : Below w.heap.size w wF := (HB8.out.trans (HB9.out.mono HB8.out.size)).trans (kF.below (fun q e => by have := HT6.out.at'; omega) (by have := HB8.out.size; have := HB9.out.size; omega))
  have hgl : g < wF.heap.size := by
    have h9 := okF
    rw [HR2.out] at h9
    exact mv_lt h9 HK1.out
  have hgw : w.heap.size ≤ g := Nat.le_trans HB8.out.size HG9.out
  have hav : ∀ a, av = some a → w.heap.size ≤ a.block := fun a ha => by have := HAV.out a ha; have := HO.out; omega
  clear kF hres9
  go_wp2
  (try simp only [Exit.inBlock, Exit.then])
  refine bodyPost_ret (results_rp_tmp rfl _ _ (O + 1) r2 rfl hRF) rfl ?_
  have e1 := HR2.out
  have e2 := HR1.out
  have e4 := HY.out
  have e5 := HXL.out
  have e6 := HFN.out
  subst e1 e2 e4 e5 e6
  have e3 := HX.out
  subst e3
  exact .inr ⟨k, g, cl, g', cl', cv, av, HK.out, HE0.out, HB.out, rfl, okF, hav, hgw, hgl, hfin⟩
end Go.Proofs.Ythknkfggpdhdbaa
namespace Go.Proofs.Ythknkfggpdhdbaa
open Go.RowKit

/-- what Send answers -/
def sR (r : RV) (i n : Int) : Int := if (i < 0 ∨ (r.L.length : Int) - 1 < i) ∨ (n < 0 ∨ (r.size : Int) < n) then 1 else if (r.L[i.toNat]?.map RB.pl) = some 4 then (if r.tx ≤ rcnt r.L 5 r.L.length then 32 else 0) else 34
set_option maxRecDepth 100000 in
set_option maxHeartbeats 3200000 in
theorem sendR_any (w : World) (r : RV) (h : RV.ok w r) (hal : ∀ a, r.al = some a → a.block < w.heap.size) (hn : r.now + 1 ≤ 4611686018427387904) (hsz : r.size ≤ 65535) (i n : Int) :
    Calls Try.prog 71 #[.agg r.cells, .int .i64 i, .int .i64 n] w fun e w' => (sR r i n ≠ 0 ∧ e = .returned (.tuple #[.agg r.cells, .int .i64 (sR r i n)]) ∧ Below w.heap.size w w') ∨
      ∃ (k m g cl g' cl' : Nat) (hk : k < r.L.length), sR r i n = 0 ∧ i = (k : Int) ∧ n = (m : Int) ∧ e = .returned (.tuple #[.agg ((r.pt k ⟨r.L[k].pl, r.L[k].since, m, r.L[k].a, r.L[k].c, r.L[k].d⟩ g' cl').mv k 5 g cl).cells, .int .i64 0]) ∧ RV.ok w' ((r.pt k ⟨r.L[k].pl, r.L[k].since, m, r.L[k].a, r.L[k].c, r.L[k].d⟩ g' cl').mv k 5 g cl) ∧ w.heap.size ≤ g ∧ g < w'.heap.size ∧ Below w.heap.size w w' := by
  have T0 := two_new w r h
  obtain ⟨W, hW⟩ : ∃ W, W = (w.alloc (.cells r.cells 26)).alloc (.cells #[.int .i64 0, .int .i64 0, .int .i64 0, .slice none 0 0, .int .i64 0] 26) := ⟨_, rfl⟩
  obtain ⟨O, hO⟩ : ∃ O, O = w.heap.size := ⟨_, rfl⟩
  rw [← hW, ← hO] at T0
  obtain ⟨C, hC⟩ : ∃ C, C = r.cells := ⟨_, rfl⟩
  have HW : Hid ((w.alloc (.cells C 26)).alloc (.cells #[.int .i64 0, .int .i64 0, .int .i64 0, .slice none 0 0, .int .i64 0] 26) = W) := by rw [hC]; exact hW.symm
  have HO : Hid (w.heap.size = O) := hO.symm
  have hbox := T0.box
  have hres := T0.res
  have HH : Hid _ := h
  have HAL : Hid _ := hal
  have HT : Hid _ := T0
  have hlen := h.len
  obtain ⟨N, hN⟩ : ∃ N, N = r.L.length := ⟨_, rfl⟩
  have HN : Hid (r.L.length = N) := hN.symm
  have c3 := hbox.c3
  have c2 := hbox.c2
  have c1 := hbox.c1
  rw [← hN] at c3 hlen
  have w1 : IntKind.i64.wrap ((N : Int) - 1) = (N : Int) - 1 := i64_small _ (by omega) (by omega)
  have Q1 : Hid _ := out_any i 0 ((N : Int) - 1) W
  have Q2 : Hid _ := out_any n 0 (r.size : Int) W
  have refuse : ∀ (X : Int) (v w5 : World), Two w v O r → sR r i n = X → X ≠ 0 → Ch (fun q => q = O + 1) v w5 → (sR r i n ≠ 0 ∧ Ending.returned (.tuple #[.agg r.cells, .int .i64 X]) = .returned (.tuple #[.agg r.cells, .int .i64 (sR r i n)]) ∧ Below w.heap.size w w5) := fun X v w5 ht e1 e2 k5 => ⟨by rw [e1]; exact e2, by rw [e1], ht.bel.trans (k5.below (fun q e => by have := ht.at'; omega) ht.bel.size)⟩
  have HREF : Hid _ := refuse
  rw [show #[Value.agg r.cells, .int .i64 i, .int .i64 n] = #[Value.agg C, .int .i64 i, .int .i64 n] from by rw [hC]]
  clear hW hC hO h hal T0 hN refuse
  by_cases hr : (i < 0 ∨ (N : Int) - 1 < i)
  · rw [decide_eq_true hr] at Q1
    have HE1 : Hid (sR r i n = 1) := by show _ = _; unfold sR; rw [HN.out, if_pos (.inl hr)]
    clear hr
    go_enter Try.func71, Try.ntmps71
    go_upto_region 1 with fail
    rw [HW.out, HO.out]
    go_wp2_with fail
    refine Calls.mono Q1.out ?_
    rintro e w' ⟨rfl, rfl⟩
    go_wp2_with (first | (refine wpList_load_rp (.tmp 3) rfl O r rfl hbox rfl ?_) | (refine wpList_store_rp (.tmp 6) (.tmp 21) rfl rfl (O + 1) rz r rfl rfl hres rfl ?_))
    intro w5 hR5 k5
    have hfin := HREF.out 1 W w5 HT.out HE1.out (by decide) k5
    clear k5 hbox hres
    go_wp2
    (try simp only [Exit.inBlock, Exit.then])
    refine bodyPost_ret (results_rp_tmp rfl _ _ (O + 1) r rfl hR5) rfl ?_
    exact .inl hfin
  rw [decide_eq_false hr] at Q1
  by_cases hr2 : (n < 0 ∨ (r.size : Int) < n)
  · rw [decide_eq_true hr2] at Q2
    have HE1 : Hid (sR r i n = 1) := by show _ = _; unfold sR; rw [HN.out, if_pos (.inr hr2)]
    clear hr hr2
    go_enter Try.func71, Try.ntmps71
    go_upto_region 1 with fail
    rw [HW.out, HO.out]
    go_wp2_with fail
    refine Calls.mono Q1.out ?_
    rintro e w' ⟨rfl, rfl⟩
    go_wp2_with fail
    refine Calls.mono Q2.out ?_
    rintro e w' ⟨rfl, rfl⟩
    go_wp2_with (first | (refine wpList_load_rp (.tmp 3) rfl O r rfl hbox rfl ?_) | (refine wpList_store_rp (.tmp 6) (.tmp 21) rfl rfl (O + 1) rz r rfl rfl hres rfl ?_))
    intro w5 hR5 k5
    have hfin := HREF.out 1 W w5 HT.out HE1.out (by decide) k5
    clear k5 hbox hres
    go_wp2
    (try simp only [Exit.inBlock, Exit.then])
    refine bodyPost_ret (results_rp_tmp rfl _ _ (O + 1) r rfl hR5) rfl ?_
    exact .inl hfin
  rw [decide_eq_false hr2] at Q2
  obtain ⟨k, rfl⟩ : ∃ k : Nat, i = (k : Int) := ⟨i.toNat, by omega⟩
  obtain ⟨m, rfl⟩ : ∃ m : Nat, n = (m : Int) := ⟨n.toNat, by omega⟩
  have hm65 : m ≤ 65535 := by omega
  have hk : k < r.L.length := by rw [HN.out]; omega
  obtain ⟨gg, off, hal, hggl, okx, d0, d1, d2, d3⟩ := HT.out.ok.bufs.at k hk
  rw [hal] at c3
  have hs : sR r (k : Int) (m : Int) = if r.L[k].pl = 4 then (if r.tx ≤ rcnt r.L 5 r.L.length then 32 else 0) else 34 := by
    unfold sR
    rw [HN.out, if_neg (fun e => e.elim hr hr2), Int.toNat_natCast, List.getElem?_eq_getElem hk]
    simp only [Option.map_some, Option.some.injEq]
  have HX0 : Hid (∀ x, x = r.L[k] → sR r (k : Int) (m : Int) = if x.pl = 4 then (if r.tx ≤ rcnt r.L 5 r.L.length then 32 else 0) else 34) := fun x hx => by rw [hx]; exact hs
  obtain ⟨x, hx⟩ : ∃ x, x = r.L[k] := ⟨_, rfl⟩
  rw [← hx] at okx d0 d1 d2 d3
  have HS := HX0.out x hx
  have HX : Hid (x = r.L[k]) := hx
  have HK : Hid _ := hk
  have HOK : Hid _ := okx
  have t0 : (0 : Int) ≤ (k : Int) := by omega
  have t1 : (k : Int) < (N : Int) := by omega
  have t2 : ((k : Int)).toNat = k := by omega
  clear hr hr2 hs HX0 hx okx hal
  by_cases h4 : x.pl = 4
  case neg =>
    have eb : ((x.pl : Int) != 4) = true := by rw [bne_iff_ne]; omega
    have HE1 : Hid (sR r (k : Int) (m : Int) = 34) := by rw [if_neg h4] at HS; exact HS
    clear HS h4
    go_enter Try.func71, Try.ntmps71
    go_upto_region 1 with fail
    rw [HW.out, HO.out]
    go_wp2_with fail
    refine Calls.mono Q1.out ?_
    rintro e w' ⟨rfl, rfl⟩
    go_wp2_with fail
    refine Calls.mono Q2.out ?_
    rintro e w' ⟨rfl, rfl⟩
    go_wp2_with (first | (refine wpList_load_rp (.tmp 3) rfl O r rfl hbox rfl ?_) | (refine wpList_store_rp (.tmp 6) (.tmp 29) rfl rfl (O + 1) rz r rfl rfl hres rfl ?_))
    intro w5 hR5 k5
    have hfin := HREF.out 34 W w5 HT.out HE1.out (by decide) k5
    clear k5 hbox hres
    go_wp2
    (try simp only [Exit.inBlock, Exit.then])
    refine bodyPost_ret (results_rp_tmp rfl _ _ (O + 1) r rfl hR5) rfl ?_
    exact .inl hfin
  have eb : ((x.pl : Int) != 4) = false := by rw [h4]; rfl
  rw [if_pos h4] at HS
  have HP4 : Hid (x.pl = 4) := h4
  obtain ⟨cn, hcn⟩ : ∃ cn, cn = rcnt r.L 5 r.L.length := ⟨_, rfl⟩
  rw [← hcn] at HS
  have HCN : Hid (rcnt r.L 5 r.L.length = cn) := hcn.symm
  have HSS : Hid _ := HS
  clear h4 hcn HS
  go_enter Try.func71, Try.ntmps71
  go_upto_region 1 with fail
  rw [HW.out, HO.out]
  go_wp2_with fail
  refine Calls.mono Q1.out ?_
  rintro e w' ⟨rfl, rfl⟩
  go_wp2_with fail
  refine Calls.mono Q2.out ?_
  rintro e w' ⟨rfl, rfl⟩
  go_upto_region 5 with fail
  go_cut [34] (fun v wx => v = .bool (decide (r.tx ≤ cn)) ∧ Two w wx O r)
  case first =>
    refine Mix.start (by kernel_rfl) ?_
    obtain ⟨wA, hwA⟩ : ∃ wA, wA = W.drew := ⟨_, rfl⟩
    have HTA : Hid (Two w wA O r) := by rw [hwA]; exact HT.out.old (Below.refl _ _).drew
    have hboxA := HTA.out.box
    have hOlA : O < wA.heap.size := hboxA.lt
    replace c1 := hboxA.c1
    have Q5 : Hid (Calls Try.prog 61 #[.agg r.cells, .int .i64 (5 : Nat)] wA fun e w' => e = .returned (.int .i64 (cn : Nat)) ∧ Below wA.heap.size wA w') := by
      have := count_any wA r.rx r.tx r.size r.al r.cl r.now r.L HTA.out.ok.bufs HTA.out.ok.len 5
      rw [HCN.out] at this
      exact this
    rw [← hwA]
    clear hwA hbox hres c3 c2 d0 d1 d2 d3
    refine Mix.take [false, false, true] 4 (by kernel_rfl) (by kernel_rfl) (by decide) (by kernel_rfl) (fun K hK => ?_)
    simp only [Mix.pick]
    repeat (go_big_quiet_step (fail))
    refine wpQuiet_nil (hK _ ?_)
    clear hK K
    refine Mix.pair [true] [false, false, false, true] 3 0 3 _ _ rfl rfl rfl rfl (by kernel_rfl) (by kernel_rfl) (fun K hK => ?_) (fun K hK => ?_)
    · simp only [Mix.pick]
      go_wp2_with (first | (refine wpList_load_rp (.tmp 3) rfl O r rfl hboxA rfl ?_))
      go_wp2
      refine ⟨rfl, hK _ _ ?_⟩
      clear hK K
      refine Mix.pair [false, true] [false, false, false, true] 2 1 3 _ _ rfl rfl rfl rfl (by kernel_rfl) (by kernel_rfl) (fun K hK => ?_) (fun K hK => ?_)
      · simp only [Mix.pick]
        go_wp2_with fail
        refine Calls.mono Q5.out ?_
        rintro e w5 ⟨rfl, hb5⟩
        replace c1 := (hb5.cell (p := ⟨O, 1, none⟩) hOlA).trans c1
        have HB5 : Hid _ := hb5
        clear hb5
        go_wp2
        refine ⟨rfl, hK _ _ ?_⟩
        clear hK K
        refine Mix.one [false, false, false, true] 1 3 _ rfl rfl (by kernel_rfl) (by kernel_rfl) (fun K hK => ?_)
        simp only [Mix.pick]
        go_wp2
        refine ⟨rfl, hK _ _ ?_⟩
        clear hK K
        refine Mix.take [false, false, false, false, true] 0 (by kernel_rfl) (by kernel_rfl) (by decide) (by kernel_rfl) (fun K hK => ?_)
        simp only [Mix.pick]
        repeat (go_big_quiet_step (fail))
        refine wpQuiet_nil (hK _ ?_)
        clear hK K
        refine Mix.done (by kernel_rfl) ?_
        first | go_meet | (go_wp2; go_meet)
        exact ⟨rfl, HTA.out.old HB5.out⟩
      · simp only [Mix.pick]
        go_wp2
        refine ⟨rfl, hK _ _ ?_⟩
        clear hK K
        refine Mix.one [false, true] 1 1 _ rfl rfl (by kernel_rfl) (by kernel_rfl) (fun K hK => ?_)
        simp only [Mix.pick]
        go_wp2_with fail
        refine Calls.mono Q5.out ?_
        rintro e w5 ⟨rfl, hb5⟩
        replace c1 := (hb5.cell (p := ⟨O, 1, none⟩) hOlA).trans c1
        have HB5 : Hid _ := hb5
        clear hb5
        go_wp2
        refine ⟨rfl, hK _ _ ?_⟩
        clear hK K
        refine Mix.take [false, false, false, false, true] 0 (by kernel_rfl) (by kernel_rfl) (by decide) (by kernel_rfl) (fun K hK => ?_)
        simp only [Mix.pick]
        repeat (go_big_quiet_step (fail))
        refine wpQuiet_nil (hK _ ?_)
        clear hK K
        refine Mix.done (by kernel_rfl) ?_
        first | go_meet | (go_wp2; go_meet)
        exact ⟨rfl, HTA.out.old HB5.out⟩
    · simp only [Mix.pick]
      go_wp2
      refine ⟨rfl, hK _ _ ?_⟩
      clear hK K
      refine Mix.one [true] 2 0 _ rfl rfl (by kernel_rfl) (by kernel_rfl) (fun K hK => ?_)
      simp only [Mix.pick]
      go_wp2_with (first | (refine wpList_load_rp (.tmp 3) rfl O r rfl hboxA rfl ?_))
      go_wp2
      refine ⟨rfl, hK _ _ ?_⟩
      clear hK K
      refine Mix.one [false, true] 1 1 _ rfl rfl (by kernel_rfl) (by kernel_rfl) (fun K hK => ?_)
      simp only [Mix.pick]
      go_wp2_with fail
      refine Calls.mono Q5.out ?_
      rintro e w5 ⟨rfl, hb5⟩
      replace c1 := (hb5.cell (p := ⟨O, 1, none⟩) hOlA).trans c1
      have HB5 : Hid _ := hb5
      clear hb5
      go_wp2
      refine ⟨rfl, hK _ _ ?_⟩
      clear hK K
      refine Mix.take [false, false, false, false, true] 0 (by kernel_rfl) (by kernel_rfl) (by decide) (by kernel_rfl) (fun K hK => ?_)
      simp only [Mix.pick]
      repeat (go_big_quiet_step (fail))
      refine wpQuiet_nil (hK _ ?_)
      clear hK K
      refine Mix.done (by kernel_rfl) ?_
      first | go_meet | (go_wp2; go_meet)
      exact ⟨rfl, HTA.out.old HB5.out⟩
  case rest =>
  obtain ⟨rfl, T4⟩ := hcut
  have hbox := T4.box
  have hres := T4.res
  have HT3 : Hid _ := T4
  clear c1 c2 c3 d0 d1 d2 d3 hggl eb Q1 Q2 w1
  by_cases hfull : r.tx ≤ cn
  · have g1 : decide (r.tx ≤ cn) = true := decide_eq_true hfull
    have HE1 : Hid (sR r (k : Int) (m : Int) = 32) := by have := HSS.out; rw [if_pos hfull] at this; exact this
    clear hfull T4
    rw [g1]
    clear g1
    go_wp2_with (first | (refine wpList_load_rp (.tmp 3) rfl O r rfl hbox rfl ?_) | (refine wpList_store_rp (.tmp 6) (.tmp 35) rfl rfl (O + 1) rz r rfl rfl hres rfl ?_))
    intro w5 hR5 k5
    have hfin := HREF.out 32 wc w5 HT3.out HE1.out (by decide) k5
    clear k5 hbox hres
    go_wp2
    (try simp only [Exit.inBlock, Exit.then])
    refine bodyPost_ret (results_rp_tmp rfl _ _ (O + 1) r rfl hR5) rfl ?_
    exact .inl hfin
  have g1 : decide (r.tx ≤ cn) = false := decide_eq_false hfull
  have HE0 : Hid (sR r (k : Int) (m : Int) = 0) := by have := HSS.out; rw [if_neg hfull] at this; exact this
  clear hfull
  rw [g1]
  clear g1
  obtain ⟨gg, off, hal, hggl, okx, d0, d1, d2, d3⟩ := T4.ok.bufs.at k HK.out
  have c3 := hbox.c3
  rw [hal, HN.out] at c3
  rw [← HX.out] at okx d0 d1 d2 d3
  clear hal HOK T4
  have HOK : Hid _ := okx
  clear okx
  go_upto_region 9 with fail
  obtain ⟨Bd, hBd⟩ : ∃ Bd, Bd = wc.heap.size := ⟨_, rfl⟩
  obtain ⟨W2, hW2⟩ : ∃ W2, W2 = wc.alloc (.cells #[.int .i64 x.pl, .int .i64 x.since, .int .i64 m, .slice x.a x.d.length x.c] 108) := ⟨_, rfl⟩
  have hbW : Below wc.heap.size wc W2 := by rw [hW2]; exact (Below.refl _ _).alloc (Nat.le_refl _) _
  have T4 := HT3.out.old hbW
  have u : ∀ j, W2.cell? ⟨Bd, j, none⟩ = (#[.int .i64 x.pl, .int .i64 x.since, .int .i64 m, .slice x.a x.d.length x.c] : Array Value)[j]? := fun j => by rw [hW2, World.cell?_alloc_at _ _ _ _ hBd]
  have u0 : W2.cell? ⟨Bd, 0, none⟩ = some (.int .i64 x.pl) := by rw [u]; rfl
  have u1 : W2.cell? ⟨Bd, 1, none⟩ = some (.int .i64 x.since) := by rw [u]; rfl
  have u2 : W2.cell? ⟨Bd, 2, none⟩ = some (.int .i64 m) := by rw [u]; rfl
  have u3 : W2.cell? ⟨Bd, 3, none⟩ = some (.slice x.a x.d.length x.c) := by rw [u]; rfl
  rw [← hW2, ← hBd]
  have hbox4 := T4.box
  have hres4 := T4.res
  have HT4 : Hid _ := T4
  have Q2 : Hid _ := pt_any W2 r T4.ok k HK.out ⟨x.pl, x.since, m, x.a, x.c, x.d⟩ ⟨HOK.out.seg.old hbW, HOK.out.h256, ⟨HOK.out.lt.1, HOK.out.lt.2.1, hm65, HOK.out.lt.2.2.2⟩⟩
  clear hW2 hBd u hbW T4 hbox hres d0 d1 d2 d3 c3 hggl
  go_wp2_with (first | (refine wpList_load_rp (.tmp 3) rfl O r rfl hbox4 rfl ?_))
  refine Calls.mono Q2.out ?_
  rintro e w5 ⟨g', cl', rfl, ok5, hg5, hb5⟩
  obtain ⟨r1, hr1⟩ : ∃ r1, r1 = r.pt k ⟨x.pl, x.since, m, x.a, x.c, x.d⟩ g' cl' := ⟨_, rfl⟩
  rw [← hr1] at ok5 ⊢
  have HR1 : Hid _ := hr1
  have hbox5 := hbox4.below hb5
  have HOK5 : Hid _ := ok5
  have HG5 : Hid _ := hg5
  have HB5 : Hid _ := hb5
  clear Q2 hbox4 u0 u1 u2 u3 ok5 hg5 hr1
  go_wp2_with (first | (refine wpList_store_rp (.tmp 3) (.tmp 46) rfl rfl O r r1 rfl rfl hbox5 rfl ?_))
  intro w6 hbox6 k6
  have hres6 := (hres4.below hb5).ch k6 (show ¬ O + 1 = O by omega)
  have hdb : ∀ q, r1.dblk q → q < O := fun q hq => by
    rw [HR1.out] at hq
    have hq2 : r.dblk q := by
      rcases pt_dblk _ _ _ _ _ _ hq with h1 | ⟨h1, h2⟩
      · exact h1
      · exact ⟨x, by rw [HX.out]; exact List.getElem_mem _, h1, h2⟩
    have := HH.out.dlt q hq2; have := HO.out; omega
  have hO1 := hres4.lt
  have ok6 : RV.ok w6 r1 := HOK5.out.ch k6 (fun a ha e => by
    rw [HR1.out] at ha
    have e2 := Option.some.inj ha
    subst e2
    have e3 : g' = O := e
    have := HG5.out
    omega) (fun q hq e => by have := hdb q hq; omega)
  have hb6 : Below w.heap.size w w6 := (HT4.out.bel.trans (hb5.mono HT4.out.bel.size)).trans (k6.below (fun q e => by have := HT4.out.at'; omega) (by have := HT4.out.bel.size; have := hb5.size; omega))
  have hk1 : k < r1.L.length := by rw [HR1.out]; show k < (r.L.set k _).length; rw [List.length_set]; exact HK.out
  have Q3 : Hid _ := mv_any w6 r1 ok6 (by rw [HR1.out]; exact hn) k hk1 5 (by decide)
  have HB6 : Hid _ := hb6
  have HDB : Hid _ := hdb
  have HK1 : Hid _ := hk1
  clear hbox5 hres4 k6 hb5 hdb hb6 ok6 hk1 HOK5
  go_wp2_with (first | (refine wpList_load_rp (.tmp 3) rfl O r1 rfl hbox6 rfl ?_))
  refine Calls.mono Q3.out ?_
  rintro e w7 ⟨g, cl, rfl, ok7, hg7, hb7⟩
  obtain ⟨r2, hr2⟩ : ∃ r2, r2 = r1.mv k 5 g cl := ⟨_, rfl⟩
  rw [← hr2] at ok7 ⊢
  have HR2 : Hid _ := hr2
  have hres7 := hres6.below hb7
  have h06 := hres6.lt
  have HOK7 : Hid _ := ok7
  have HG7 : Hid (w6.heap.size ≤ g) := hg7
  have HB7 : Hid _ := hb7
  clear Q3 hbox6 hres6 ok7 hg7 hb7 hr2
  go_wp2_with (first | (refine wpList_store_rp (.tmp 6) (.tmp 49) rfl rfl (O + 1) rz r2 rfl rfl hres7 rfl ?_))
  intro w8 hR8 k8
  have ok8 : RV.ok w8 r2 := HOK7.out.ch k8 (fun a ha e => by
    rw [HR2.out] at ha
    have e2 := Option.some.inj ha
    subst e2
    have e3 : g = O + 1 := e
    have := HG7.out
    omega) (fun q hq e => by
    rw [HR2.out] at hq
    have := HDB.out q (mv_dblk r1 k 5 g cl HK1.out q hq)
    omega)
  have hfin : Below w.heap.size w w8 := (HB6.out.trans (HB7.out.mono HB6.out.size)).trans (k8.below (fun q e => by have := HT4.out.at'; omega) (by have := HB6.out.size; have := HB7.out.size; omega))
  have hgl : g < w8.heap.size := by
    have h9 := ok8
    rw [HR2.out] at h9
    exact mv_lt h9 HK1.out
  have hgw : w.heap.size ≤ g := Nat.le_trans HB6.out.size HG7.out
  clear k8 hres7
  go_wp2
  (try simp only [Exit.inBlock, Exit.then])
  refine bodyPost_ret (results_rp_tmp rfl _ _ (O + 1) r2 rfl hR8) rfl ?_
  have e1 := HR2.out
  have e2 := HR1.out
  have e3 := HX.out
  have hE := HE0.out
  subst e1 e2 e3
  exact .inr ⟨k, m, g, cl, g', cl', HK.out, hE, rfl, rfl, rfl, ok8, hgw, hgl, hfin⟩
end Go.Proofs.Ythknkfggpdhdbaa
namespace Go.Proofs.Ythknkfggpdhdbaa
open Go.RowKit

theorem pl_succ (L : List RB) (k : Nat) (hk : k < L.length) : nV ((L.take (k + 1)).map RB.pl) = nV ((L.take k).map RB.pl) ++ [.int .i64 (L[k].pl : Int)] := by
  have e : L.take (k + 1) = L.take k ++ [L[k]] := by rw [List.take_add_one, List.getElem?_eq_getElem hk]; rfl
  rw [e, List.map_append]
  unfold nV
  rw [List.map_append]
  rfl
set_option maxRecDepth 100000 in
set_option maxHeartbeats 1600000 in
theorem placesR_any (w : World) (r : RV) (h : RV.ok w r) :
    Calls Try.prog 36 #[.agg r.cells] w fun e w' => ∃ v, e = .returned v ∧ w'.ownsRow w.heap.size 3 1 v r.L.length (nV (r.L.map RB.pl)) ∧ Below w.heap.size w w' := by
  obtain ⟨i0, hii, hz0, hz1, hz2⟩ := info_parts Try.infoInt
  have hO := rpAt_new w r
  have hb1 : Below w.heap.size w (w.alloc (.cells r.cells 26)) := (Below.refl _ _).alloc (Nat.le_refl _) _
  have hB := h.bufs.old hb1
  have hlen := h.len
  have c3 := hO.c3
  obtain ⟨W, hW⟩ : ∃ W, W = w.alloc (.cells r.cells 26) := ⟨_, rfl⟩
  obtain ⟨O, hO'⟩ : ∃ O, O = w.heap.size := ⟨_, rfl⟩
  rw [← hW, ← hO'] at c3
  rw [← hW] at hB hb1
  obtain ⟨C, hC⟩ : ∃ C, C = r.cells := ⟨_, rfl⟩
  rw [← hC] at hW ⊢
  have HW : Hid (w.alloc (.cells C 26) = W) := hW.symm
  have HO : Hid (w.heap.size = O) := hO'.symm
  obtain ⟨N, hN⟩ : ∃ N, N = r.L.length := ⟨_, rfl⟩
  have HN : Hid (r.L.length = N) := hN.symm
  rw [← hN] at hlen c3 ⊢
  have hOl : O < W.heap.size := World.block_lt_of_cell? W _ c3
  have hbs := hb1.size
  have HB1 : Hid _ := hb1
  have HBU : Hid _ := hB
  clear hW hC hO' hO hN hB h
  go_enter Try.func36, Try.ntmps36
  go_upto_region 1 with fail
  rw [HW.out, HO.out]
  clear hb1
  go_wp2
  go_loopw [3, 4] (fun v ix wr => ∃ k : Nat, k ≤ N ∧ ix = .int .i64 k ∧ wr.ownsRow W.heap.size 3 1 v k (nV ((r.L.take k).map RB.pl)) ∧ Below W.heap.size W wr) (fun _ ix _ => N - (intOf ix).toNat)
  case atStart => exact ⟨0, Nat.zero_le _, rfl, World.ownsRow_nil _ _ _ _, Below.refl _ _⟩
  case round =>
    obtain ⟨k, hk, rfl, ho, hb⟩ := hrel
    obtain ⟨a7, c7, rfl⟩ := owns_shape ho
    have c3' := (hb.cell (p := ⟨O, 3, none⟩) hOl).trans c3
    by_cases hlt : k < N
    · have hkL : k < r.L.length := by rw [HN.out]; exact hlt
      obtain ⟨g, off, hal, hgl, q0, d0, q1, q2, q3⟩ := Bufs.at HBU.out k hkL
      have d0' := (hb.cell (p := ⟨g, off + k * 4, none⟩) hgl).trans d0
      rw [hal] at c3'
      have hs := hb.size
      have hsu := pl_succ r.L k hkL
      obtain ⟨y, hy⟩ : ∃ y, y = r.L[k].pl := ⟨_, rfl⟩
      rw [← hy] at d0' hsu
      have hrow : (wr.alloc (.cells #[.int .i64 (y : Int)] 3)).ownsRow W.heap.size 3 1 (.slice a7 k c7) k (nV ((r.L.take k).map RB.pl)) := ho.alloc _
      have key : ∀ v' w', w'.ownsRow W.heap.size 3 1 v' (k + 1) (nV ((r.L.take k).map RB.pl) ++ [.int .i64 (y : Int)]) → (((wr.alloc (.cells #[.int .i64 (y : Int)] 3)).grownBy w' none ∧ ∀ q, v'.ownBlock = some q → (wr.alloc (.cells #[.int .i64 (y : Int)] 3)).heap.size ≤ q) ∨ ((wr.alloc (.cells #[.int .i64 (y : Int)] 3)).grownBy w' (Value.slice a7 k c7).ownBlock ∧ v'.ownBlock = (Value.slice a7 k c7).ownBlock ∧ (Value.slice a7 k c7).ownBlock ≠ none)) → w'.ownsRow W.heap.size 3 1 v' (k + 1) (nV ((r.L.take (k + 1)).map RB.pl)) ∧ Below W.heap.size W w' := by
        intro v' w' ho' hg'
        have hb2 := hb.alloc hb.size (.cells #[.int .i64 (y : Int)] 3)
        refine ⟨by rw [hsu]; exact ho', ?_⟩
        rcases hg' with ⟨g1, _⟩ | ⟨g1, _, _⟩
        · exact hb2.grown g1 hb2.size (by intro q hq; cases hq)
        · exact hb2.grown g1 hb2.size (fun q hq => (ho.lt q hq).1)
      have HK : Hid _ := key
      have hbase : W.heap.size ≤ (wr.alloc (.cells #[.int .i64 (y : Int)] 3)).heap.size := by simp; omega
      obtain ⟨xs, hxs⟩ : ∃ xs, xs = nV ((r.L.take k).map RB.pl) := ⟨_, rfl⟩
      rw [← hxs] at hrow HK
      have t0 : (0 : Int) ≤ (k : Int) := by omega
      have t1 : (k : Int) < (N : Int) := by omega
      have t2 : ((k : Int)).toNat = k := by omega
      clear key ho hsu hy hal hb hxs d0 q0 q1 q2 q3
      go_wp2_with (first | (at_builtin; refine append_split rfl (.tmp 12) (.tmp 19) 69 rfl W.heap.size 3 i0 (.int .i64 0) 8 Try.underlying69 hii hz0 hz1 hz2 rfl (.slice a7 k c7) k xs rfl hrow ⟨wr.heap.size, 0, none⟩ 1 1 [.int .i64 (y : Int)] rfl rfl (news1 _ _ _) (by intro u hu; simp at hu; subst hu; rfl) (by unfold maxLen; omega) (by omega) hbase ?_))
      intro v' w' ho' hg'
      obtain ⟨r1, r2⟩ := HK.out v' w' ho' (by simpa using hg')
      clear ho' hg' HK
      go_wp2
      go_roundw
      case rel => exact ⟨k + 1, by omega, by go_num, r1, r2⟩
      case measure => simp [intOf]; omega
    · obtain rfl : k = N := by omega
      have hfin : Below w.heap.size w wr := HB1.out.trans (hb.mono HB1.out.size)
      have hown := owns_mono ho hbs
      rw [← HN.out, List.take_length] at hown
      rw [HN.out] at hown
      have HOWN : Hid _ := hown
      clear hb ho hown
      go_wp2
      go_ret
      exact ⟨_, rfl, HOWN.out, hfin⟩
end Go.Proofs.Ythknkfggpdhdbaa
