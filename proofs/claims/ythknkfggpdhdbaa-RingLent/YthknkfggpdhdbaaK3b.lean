/-
  Port Port2 Port3 Port4 Port5 Port6 Port7 Port8 Port9 Port10 Port11 Port12, one behind the other.
-/
import Derived.Test.YthknkfggpdhdbaaK3a
import Derived.Laws.CopyOwn
import Derived.OwnWalk
import Derived.Lib.SliceRun
namespace Go.Proofs.Ythknkfggpdhdbaa
open Go.RowKit

/-- what a port is -/
structure PS where
  size : Nat
  rxn : Nat
  txn : Nat
  pool : Nat
  filled : Nat
  pl : Nat → Nat
  ln : Nat → Nat
  bb : Nat → Option Nat
  da : Nat → List Nat
  fr : List Nat
  rx : List Nat
  tx : List Nat
/-- a buffer's bytes, as its cell holds them -/
def PS.bv (s : PS) (i : Nat) : Value := match s.bb i with | none => .slice none 0 0 | some b => .slice (some ⟨b, 0, none⟩) s.size s.size
structure PortAt (w : World) (P gb gf gr gt : Nat) (s : PS) : Prop where
  cB : w.cell? ⟨P, 0, none⟩ = some (.slice (some ⟨gb, 0, none⟩) s.pool s.pool)
  cS : w.cell? ⟨P, 1, none⟩ = some (.int .i64 s.size)
  cF : w.cell? ⟨P, 8, none⟩ = some (.int .i64 s.filled)
  fz : ∀ j, w.frozen? ⟨P, j, none⟩ = false
  lf : ∃ f S, LineAt w P 2 gf s.pool s.fr f S
  lr : ∃ f S, LineAt w P 5 gr s.rxn s.rx f S
  lt : ∃ f S, LineAt w P 9 gt s.txn s.tx f S
  b0 : ∀ i, i < s.pool → w.cell? ⟨gb, i * 3, none⟩ = some (.int .i64 (s.pl i))
  b1 : ∀ i, i < s.pool → w.cell? ⟨gb, i * 3 + 1, none⟩ = some (.int .i64 (s.ln i))
  b2 : ∀ i, i < s.pool → w.cell? ⟨gb, i * 3 + 2, none⟩ = some (s.bv i)
  bz : ∀ j, w.frozen? ⟨gb, j, none⟩ = false
  row : ∀ i b, i < s.pool → s.bb i = some b → w.ownsRow 0 5 1 (.slice (some ⟨b, 0, none⟩) s.size s.size) s.size ((toI (s.da i)).map (Value.int .u8))
  nil : ∀ i, i < s.pool → s.bb i = none → s.da i = List.replicate s.size 0
  dl : ∀ i, i < s.pool → (s.da i).length = s.size
  d256 : ∀ i, i < s.pool → ∀ x ∈ s.da i, x < 256
  sz1 : 64 ≤ s.size
  sz2 : s.size ≤ 65535
  p1 : 1 ≤ s.pool
  p2 : s.pool ≤ 8192
  nPb : P ≠ gb
  nbf : gb ≠ gf
  nbr : gb ≠ gr
  nbt : gb ≠ gt
  nfr : gf ≠ gr
  nft : gf ≠ gt
  nrt : gr ≠ gt
  nrow : ∀ i b, i < s.pool → s.bb i = some b → b ≠ P ∧ b ≠ gb ∧ b ≠ gf ∧ b ≠ gr ∧ b ≠ gt
  nrr : ∀ i j b, i < s.pool → j < s.pool → i ≠ j → s.bb i = some b → s.bb j ≠ some b
/-- its blocks -/
def PB (P gb gf gr gt : Nat) (s : PS) (q : Nat) : Prop := q = P ∨ q = gb ∨ q = gf ∨ q = gr ∨ q = gt ∨ ∃ i, i < s.pool ∧ s.bb i = some q
theorem PortAt.ch {T : Nat → Prop} {w w' : World} {P gb gf gr gt : Nat} {s : PS} (h : PortAt w P gb gf gr gt s) (k : Ch T w w') (hT : ∀ q, PB P gb gf gr gt s q → ¬ T q) : PortAt w' P gb gf gr gt s := by
  have tP := hT P (.inl rfl)
  have tb := hT gb (.inr (.inl rfl))
  have tf := hT gf (.inr (.inr (.inl rfl)))
  have tr := hT gr (.inr (.inr (.inr (.inl rfl))))
  have tt := hT gt (.inr (.inr (.inr (.inr (.inl rfl)))))
  obtain ⟨f1, S1, l1⟩ := h.lf
  obtain ⟨f2, S2, l2⟩ := h.lr
  obtain ⟨f3, S3, l3⟩ := h.lt
  have hpos := h.p1
  have hbl : gb < w.heap.size := World.block_lt_of_cell? w ⟨gb, 0 * 3, none⟩ (h.b0 0 (by omega))
  exact ⟨k.cell h.cB tP, k.cell h.cS tP, k.cell h.cF tP, fun j => (k.frozen (p := ⟨P, j, none⟩) (show P < w.heap.size from World.block_lt_of_cell? w ⟨P, 0, none⟩ h.cB) tP).trans (h.fz j), ⟨f1, S1, l1.ch k tP tf⟩, ⟨f2, S2, l2.ch k tP tr⟩, ⟨f3, S3, l3.ch k tP tt⟩,
    fun i hi => k.cell (h.b0 i hi) tb, fun i hi => k.cell (h.b1 i hi) tb, fun i hi => k.cell (h.b2 i hi) tb, fun j => (k.frozen (p := ⟨gb, j, none⟩) hbl tb).trans (h.bz j),
    fun i b hi hb => k.owns (h.row i b hi hb) (fun q hq e => hT q (.inr (.inr (.inr (.inr (.inr ⟨i, hi, by rw [hb]; simpa [Value.ownBlock] using hq⟩))))) e), h.nil, h.dl, h.d256, h.sz1, h.sz2, h.p1, h.p2, h.nPb, h.nbf, h.nbr, h.nbt, h.nfr, h.nft, h.nrt, h.nrow, h.nrr⟩
theorem PortAt.below {w w' : World} {P gb gf gr gt : Nat} {s : PS} (h : PortAt w P gb gf gr gt s) (k : Below w.heap.size w w') : PortAt w' P gb gf gr gt s := h.ch (Ch.ofBelow (S := fun _ => False) k) (fun _ _ => id)

set_option maxHeartbeats 400000 in
theorem within_any (v lo hi : Int) (w : World) : Calls Try.prog 39 #[.int .i64 v, .int .i64 lo, .int .i64 hi] w fun e w' => e = .returned (.bool (decide (lo ≤ v ∧ v ≤ hi))) ∧ w = w' := by
  by_cases h1 : lo ≤ v
  · by_cases h2 : v ≤ hi
    · rw [decide_eq_true ⟨h1, h2⟩]
      go_enter Try.func39, Try.ntmps39
      go_wp2
      go_ret
      exact ⟨by simp, rfl⟩
    · have hd : decide (v ≤ hi) = false := decide_eq_false h2
      rw [decide_eq_false (fun h => h2 h.2)]
      go_enter Try.func39, Try.ntmps39
      go_wp2
      go_ret
      exact ⟨by simp, rfl⟩
  · have hd : decide (lo ≤ v) = false := decide_eq_false h1
    rw [decide_eq_false (fun h => h1 h.1)]
    go_enter Try.func39, Try.ntmps39
    go_wp2
    go_ret
    exact ⟨by simp, rfl⟩
/-- what held answers -/
def hE (s : PS) (i : Int) : Int := if i < 0 ∨ (s.pool : Int) - 1 < i then 1 else if s.pl i.toNat = 4 then 0 else 34
set_option maxHeartbeats 400000 in
theorem held_any (w : World) (P gb gf gr gt : Nat) (s : PS) (h : PortAt w P gb gf gr gt s) (i : Int) :
    Calls Try.prog 48 #[.pointer (some ⟨P, 0, none⟩), .int .i64 i] w fun e w' => e = .returned (.int .i64 (hE s i)) ∧ w = w' := by
  have hB := h.cB
  have hp1 := h.p1
  have hp2 := h.p2
  by_cases hr : i < 0 ∨ (s.pool : Int) - 1 < i
  · have e : hE s i = 1 := if_pos hr
    rw [e]
    have hd : decide (0 ≤ i ∧ i ≤ (s.pool : Int) - 1) = false := decide_eq_false (by omega)
    have HW : Hid _ := within_any i 0 ((s.pool : Int) - 1) w
    rw [hd] at HW
    clear hr hd e
    go_enter Try.func48, Try.ntmps48
    go_wp2_with fail
    refine Calls.mono HW.out ?_
    rintro e w' ⟨rfl, rfl⟩
    go_wp2
    go_ret
    exact ⟨rfl, rfl⟩
  · obtain ⟨k, rfl⟩ : ∃ k : Nat, i = (k : Int) := ⟨i.toNat, by omega⟩
    have hk : k < s.pool := by omega
    have hd : decide ((0 : Int) ≤ (k : Int) ∧ (k : Int) ≤ (s.pool : Int) - 1) = true := decide_eq_true (by omega)
    have HW : Hid _ := within_any (k : Int) 0 ((s.pool : Int) - 1) w
    rw [hd] at HW
    have e : hE s (k : Int) = if s.pl k = 4 then 0 else 34 := by unfold hE; rw [if_neg hr, Int.toNat_natCast]
    rw [e]
    have hc := h.b0 k hk
    obtain ⟨x, hx⟩ : ∃ x, x = s.pl k := ⟨_, rfl⟩
    rw [← hx] at hc ⊢
    clear hd hr hx e
    by_cases h4 : x = 4
    · have hb : ((x : Int) != 4) = false := by rw [h4]; rfl
      rw [if_pos h4]
      clear h4
      go_enter Try.func48, Try.ntmps48
      go_wp2_with fail
      refine Calls.mono HW.out ?_
      rintro e w' ⟨rfl, rfl⟩
      go_wp2
      go_ret
      exact ⟨rfl, rfl⟩
    · have hb : ((x : Int) != 4) = true := by rw [bne_iff_ne]; omega
      rw [if_neg h4]
      clear h4
      go_enter Try.func48, Try.ntmps48
      go_wp2_with fail
      refine Calls.mono HW.out ?_
      rintro e w' ⟨rfl, rfl⟩
      go_wp2
      go_ret
      exact ⟨rfl, rfl⟩
end Go.Proofs.Ythknkfggpdhdbaa
namespace Go.Proofs.Ythknkfggpdhdbaa
open Go.RowKit

def updF {α : Type} (f : Nat → α) (i : Nat) (x : α) (j : Nat) : α := if j = i then x else f j
theorem updF_same {α : Type} (f : Nat → α) (i : Nat) (x : α) : updF f i x i = x := if_pos rfl
theorem updF_other {α : Type} (f : Nat → α) (i : Nat) (x : α) {j : Nat} (h : j ≠ i) : updF f i x j = f j := if_neg h
theorem updF_id {α : Type} (f : Nat → α) (i : Nat) : updF f i (f i) = f := by
  funext j; unfold updF; split
  · rename_i e; rw [e]
  · rfl
variable {w w' : World} {P gb gf gr gt : Nat} {s : PS}
theorem PortAt.Pl (h : PortAt w P gb gf gr gt s) : P < w.heap.size := World.block_lt_of_cell? w ⟨P, 0, none⟩ h.cB
theorem PortAt.bl (h : PortAt w P gb gf gr gt s) : gb < w.heap.size := World.block_lt_of_cell? w ⟨gb, 0 * 3, none⟩ (h.b0 0 (by have := h.p1; omega))
/-- nothing but the block gb changed: the rest stands -/
theorem PortAt.gbOnly (h : PortAt w P gb gf gr gt s) (k : Ch (fun q => q = gb) w w') (pl' ln' : Nat → Nat) (bb' : Nat → Option Nat)
    (c0 : ∀ i, i < s.pool → w'.cell? ⟨gb, i * 3, none⟩ = some (.int .i64 (pl' i))) (c1 : ∀ i, i < s.pool → w'.cell? ⟨gb, i * 3 + 1, none⟩ = some (.int .i64 (ln' i))) (c2 : ∀ i, i < s.pool → w'.cell? ⟨gb, i * 3 + 2, none⟩ = some (PS.bv { s with bb := bb' } i)) (cz : ∀ j, w'.frozen? ⟨gb, j, none⟩ = false)
    (hrow : ∀ i b, i < s.pool → bb' i = some b → w'.ownsRow 0 5 1 (.slice (some ⟨b, 0, none⟩) s.size s.size) s.size ((toI (s.da i)).map (Value.int .u8))) (hnil : ∀ i, i < s.pool → bb' i = none → s.da i = List.replicate s.size 0)
    (hn1 : ∀ i b, i < s.pool → bb' i = some b → b ≠ P ∧ b ≠ gb ∧ b ≠ gf ∧ b ≠ gr ∧ b ≠ gt) (hn2 : ∀ i j b, i < s.pool → j < s.pool → i ≠ j → bb' i = some b → bb' j ≠ some b) :
    PortAt w' P gb gf gr gt { s with pl := pl', ln := ln', bb := bb' } := by
  obtain ⟨f1, S1, l1⟩ := h.lf
  obtain ⟨f2, S2, l2⟩ := h.lr
  obtain ⟨f3, S3, l3⟩ := h.lt
  exact ⟨k.cell h.cB h.nPb, k.cell h.cS h.nPb, k.cell h.cF h.nPb, fun j => (k.frozen (p := ⟨P, j, none⟩) h.Pl h.nPb).trans (h.fz j), ⟨f1, S1, l1.ch k h.nPb (fun e => h.nbf e.symm)⟩, ⟨f2, S2, l2.ch k h.nPb (fun e => h.nbr e.symm)⟩, ⟨f3, S3, l3.ch k h.nPb (fun e => h.nbt e.symm)⟩, c0, c1, c2, cz, hrow, hnil, h.dl, h.d256, h.sz1, h.sz2, h.p1, h.p2, h.nPb, h.nbf, h.nbr, h.nbt, h.nfr, h.nft, h.nrt, hn1, hn2⟩
theorem gb_other (w : World) (gb j i : Nat) (v : Value) (h : i ≠ j) : (w.setCell ⟨gb, j, none⟩ v).cell? ⟨gb, i, none⟩ = w.cell? ⟨gb, i, none⟩ := World.cell?_setCell_other _ _ _ _ (by simp only [ne_eq, Addr.mk.injEq, true_and, and_true]; exact fun e => h e.symm)
/-- a buffer's place is another -/
theorem PortAt.setPl (h : PortAt w P gb gf gr gt s) (i v : Nat) (hi : i < s.pool) : PortAt (w.setCell ⟨gb, i * 3, none⟩ (.int .i64 (v : Int))) P gb gf gr gt { s with pl := updF s.pl i v } := by
  have k : Ch (fun q => q = gb) w (w.setCell ⟨gb, i * 3, none⟩ (.int .i64 (v : Int))) := (Ch.refl _ w).set _ _ rfl
  refine h.gbOnly k _ s.ln s.bb (fun j hj => ?_) (fun j hj => ?_) (fun j hj => ?_) (fun j => ?_) (fun j b hj hb => k.owns (h.row j b hj hb) (fun q hq e => (h.nrow j b hj hb).2.1 (by simp [Value.ownBlock] at hq; omega))) h.nil h.nrow h.nrr
  · by_cases e : j = i
    · subst e; rw [updF_same]; exact World.cell?_setCell_same _ _ _ (h.b0 j hj)
    · rw [updF_other _ _ _ e, gb_other _ _ _ _ _ (by omega)]; exact h.b0 j hj
  · rw [gb_other _ _ _ _ _ (by omega)]; exact h.b1 j hj
  · rw [gb_other _ _ _ _ _ (by omega)]; exact h.b2 j hj
  · rw [World.frozen?_setCell]; exact h.bz j
theorem PortAt.setLn (h : PortAt w P gb gf gr gt s) (i v : Nat) (hi : i < s.pool) : PortAt (w.setCell ⟨gb, i * 3 + 1, none⟩ (.int .i64 (v : Int))) P gb gf gr gt { s with ln := updF s.ln i v } := by
  have k : Ch (fun q => q = gb) w (w.setCell ⟨gb, i * 3 + 1, none⟩ (.int .i64 (v : Int))) := (Ch.refl _ w).set _ _ rfl
  refine h.gbOnly k s.pl _ s.bb (fun j hj => ?_) (fun j hj => ?_) (fun j hj => ?_) (fun j => ?_) (fun j b hj hb => k.owns (h.row j b hj hb) (fun q hq e => (h.nrow j b hj hb).2.1 (by simp [Value.ownBlock] at hq; omega))) h.nil h.nrow h.nrr
  · rw [gb_other _ _ _ _ _ (by omega)]; exact h.b0 j hj
  · by_cases e : j = i
    · subst e; rw [updF_same]; exact World.cell?_setCell_same _ _ _ (h.b1 j hj)
    · rw [updF_other _ _ _ e, gb_other _ _ _ _ _ (by omega)]; exact h.b1 j hj
  · rw [gb_other _ _ _ _ _ (by omega)]; exact h.b2 j hj
  · rw [World.frozen?_setCell]; exact h.bz j
/-- a buffer's memory is made -/
theorem PortAt.made (h : PortAt w P gb gf gr gt s) (i b : Nat) (hi : i < s.pool) (hn : s.bb i = none) {w1 : World} (hg : w.grownBy w1 none) (hb : w.heap.size ≤ b) (hrow : w1.ownsRow 0 5 1 (.slice (some ⟨b, 0, none⟩) s.size s.size) s.size ((toI (List.replicate s.size 0)).map (Value.int .u8))) :
    PortAt (w1.setCell ⟨gb, i * 3 + 2, none⟩ (.slice (some ⟨b, 0, none⟩) s.size s.size)) P gb gf gr gt { s with bb := updF s.bb i (some b) } := by
  have k1 := Ch.ofGrown hg
  have h1 := h.ch k1 (fun q _ e => by cases e)
  have hbl := h.bl
  have hlt : ∀ j c, j < s.pool → s.bb j = some c → c < w.heap.size := fun j c hj hc => ((h.row j c hj hc).lt c rfl).2
  have k : Ch (fun q => q = gb) w1 (w1.setCell ⟨gb, i * 3 + 2, none⟩ (.slice (some ⟨b, 0, none⟩) s.size s.size)) := (Ch.refl _ w1).set _ _ rfl
  have hPl := h.Pl
  obtain ⟨_, _, l1⟩ := h.lf
  obtain ⟨_, _, l2⟩ := h.lr
  obtain ⟨_, _, l3⟩ := h.lt
  have q1 := (l1.row.lt gf rfl).2
  have q2 := (l2.row.lt gr rfl).2
  have q3 := (l3.row.lt gt rfl).2
  refine h1.gbOnly k s.pl s.ln _ (fun j hj => ?_) (fun j hj => ?_) (fun j hj => ?_) (fun j => ?_) (fun j c hj hc => ?_) (fun j hj hc => ?_) (fun j c hj hc => ?_) (fun j l c hj hl hne hc hc' => ?_)
  · rw [gb_other _ _ _ _ _ (by omega)]; exact h1.b0 j hj
  · rw [gb_other _ _ _ _ _ (by omega)]; exact h1.b1 j hj
  · by_cases e : j = i
    · subst e
      rw [World.cell?_setCell_same _ _ _ (h1.b2 j hj)]
      simp [PS.bv, updF_same]
    · rw [gb_other _ _ _ _ _ (by omega), h1.b2 j hj]
      simp [PS.bv, updF_other _ _ _ e]
  · rw [World.frozen?_setCell]; exact h1.bz j
  · by_cases e : j = i
    · subst e
      rw [updF_same] at hc
      simp only [Option.some.injEq] at hc
      subst hc
      rw [h.nil j hj hn]
      exact k.owns hrow (fun q hq e => by simp [Value.ownBlock] at hq; omega)
    · rw [updF_other _ _ _ e] at hc
      exact k.owns (h1.row j c hj hc) (fun q hq e' => (h.nrow j c hj hc).2.1 (by simp [Value.ownBlock] at hq; omega))
  · by_cases e : j = i
    · subst e; rw [updF_same] at hc; cases hc
    · rw [updF_other _ _ _ e] at hc; exact h.nil j hj hc
  · by_cases e : j = i
    · subst e
      rw [updF_same] at hc
      simp only [Option.some.injEq] at hc
      subst hc
      refine ⟨by omega, by omega, by omega, by omega, by omega⟩
    · rw [updF_other _ _ _ e] at hc; exact h.nrow j c hj hc
  · by_cases e : j = i
    · subst e
      rw [updF_same] at hc
      simp only [Option.some.injEq] at hc
      subst hc
      rw [updF_other _ _ _ (fun e' => hne e'.symm)] at hc'
      have := hlt l b hl hc'; omega
    · rw [updF_other _ _ _ e] at hc
      by_cases e2 : l = i
      · subst e2
        rw [updF_same] at hc'
        simp only [Option.some.injEq] at hc'
        subst hc'
        have := hlt j b hj hc; omega
      · rw [updF_other _ _ _ e2] at hc'
        exact h.nrr j l c hj hl hne hc hc'

/-- the port behind a call that may have made buffer i's memory: the block b -/
def Mem1 (w : World) (P gb gf gr gt : Nat) (s : PS) (i b : Nat) (w' : World) : Prop :=
  PortAt w' P gb gf gr gt { s with bb := updF s.bb i (some b) } ∧ Ch (fun q => q = gb) w w' ∧ (s.bb i = some b ∨ (s.bb i = none ∧ w.heap.size ≤ b))
theorem toList_made (n : Nat) : (toI (List.replicate n 0)).map (Value.int .u8) = List.replicate n (.int .u8 0) := by simp [toI]
theorem equalIn_slice_nil {P : Program} (w : World) (d : Nat) (t e : TypeId) (a : Option Addr) (l c : Nat) (h : P.underlying t = some (.slice e)) : (Op.equalIn (d + 1) t (.slice a l c) (.slice none 0 0)).run P w = .ok a.isNone w := by
  cases a <;> simp [Op.equalIn, run_underlying h]
theorem run_eql_slice_nil (w : World) (a : Option Addr) (l c : Nat) : (binOp .eql 43 (.slice a l c) (.slice none 0 0)).run Try.prog w = .ok (.bool a.isNone) w := by
  simp only [binOp]
  have e : ∀ w, (Op.equal 43 (.slice a l c) (.slice none 0 0)).run Try.prog w = .ok a.isNone w := fun w => equalIn_slice_nil w 9999 _ _ a l c Try.underlying43
  simp [e]
@[go_sem] theorem run_eql_nil_nil (w : World) : (binOp .eql 43 (.slice none 0 0) (.slice none 0 0)).run Try.prog w = .ok (.bool true) w := run_eql_slice_nil w none 0 0
@[go_sem] theorem run_eql_some_nil (w : World) (a : Addr) (l c : Nat) : (binOp .eql 43 (.slice (some a) l c) (.slice none 0 0)).run Try.prog w = .ok (.bool false) w := run_eql_slice_nil w (some a) l c
set_option maxRecDepth 100000 in
set_option maxHeartbeats 800000 in
theorem memory_any (w : World) (P gb gf gr gt : Nat) (s : PS) (h : PortAt w P gb gf gr gt s) (i : Nat) (hi : i < s.pool) :
    Calls Try.prog 45 #[.pointer (some ⟨P, 0, none⟩), .int .i64 i] w fun e w' => ∃ b, e = .returned (.slice (some ⟨b, 0, none⟩) s.size s.size) ∧ Mem1 w P gb gf gr gt s i b w' := by
  obtain ⟨i0, hii, hz0, hz1, hz2⟩ := info_parts Try.infoByte
  have hB := h.cB
  have hS := h.cS
  have h2 := h.b2 i hi
  have hp2 := h.p2
  have hs2 := h.sz2
  cases hb : s.bb i with
  | some b =>
    rw [PS.bv, hb] at h2
    simp only at h2
    have HF : Hid (Mem1 w P gb gf gr gt s i b w) := ⟨by rw [show updF s.bb i (some b) = s.bb from by rw [← hb]; exact updF_id _ _]; exact h, Ch.refl _ _, .inl hb⟩
    clear hb h
    go_enter Try.func45, Try.ntmps45
    go_wp2
    go_ret
    exact ⟨b, rfl, HF.out⟩
  | none =>
    rw [PS.bv, hb] at h2
    simp only at h2
    have HB : Hid (s.bb i = none) := hb
    have hgl := h.bl
    have hPl := h.Pl
    have hfz := h.bz (i * 3 + 2)
    obtain ⟨sz, hsz⟩ : ∃ sz, sz = s.size := ⟨_, rfl⟩
    rw [← hsz] at hS hs2
    have HSZ : Hid (s.size = sz) := hsz.symm
    clear hb hsz
    go_enter Try.func45, Try.ntmps45
    go_wp2_with (first | (at_make; refine wpList_make_full _ rfl _ _ 43 rfl w.heap.size 5 i0 (.int .u8 0) 1 Try.underlying43 hii hz0 hz1 .i64 .i64 _ _ sz rfl rfl rfl rfl (by rw [hz2]; omega) (by unfold maxLen; omega) (Nat.le_refl _) ?_))
    intro w1 hown hgr
    rw [toList_madeCells_one] at hown
    have c1 : w1.cell? ⟨gb, i * 3 + 2, none⟩ = some (.slice none 0 0) := hgr.cell h2 (by simp)
    have f1 : w1.frozen? ⟨gb, i * 3 + 2, none⟩ = false := by rw [World.frozen?_of_block (hgr.block gb hgl (by simp))]; exact hfz
    have hfin := h.made i w.heap.size hi HB.out hgr (Nat.le_refl _) (by rw [toList_made, HSZ.out]; exact owns_mono hown (Nat.zero_le _))
    have HF : Hid (Mem1 w P gb gf gr gt s i w.heap.size (w1.setCell ⟨gb, i * 3 + 2, none⟩ (.slice (some ⟨w.heap.size, 0, none⟩) sz sz))) := ⟨by have e := HSZ.out; rw [← e]; exact hfin, ((Ch.ofGrown hgr).mono (fun _ _ e => by cases e)).set _ _ rfl, .inr ⟨HB.out, Nat.le_refl _⟩⟩
    have e1 : (w1.setCell ⟨gb, i * 3 + 2, none⟩ (.slice (some ⟨w.heap.size, 0, none⟩) sz sz)).cell? ⟨gb, i * 3 + 2, none⟩ = some (.slice (some ⟨w.heap.size, 0, none⟩) sz sz) := World.cell?_setCell_same _ _ _ c1
    clear hfin hown hgr h
    go_wp2
    go_ret
    exact ⟨w.heap.size, by rw [HSZ.out]; rfl, HF.out⟩
end Go.Proofs.Ythknkfggpdhdbaa
namespace Go.Proofs.Ythknkfggpdhdbaa
open Go.RowKit

variable {w w' : World} {P gb gf gr gt : Nat} {s : PS}
/-- P's own cells and the lines' slots changed alone -/
theorem PortAt.lines (h : PortAt w P gb gf gr gt s) (k : Ch (fun q => q = P ∨ q = gf ∨ q = gr ∨ q = gt) w w') {fr' rx' tx' : List Nat} {fl' : Nat}
    (hB : w'.cell? ⟨P, 0, none⟩ = w.cell? ⟨P, 0, none⟩) (hS : w'.cell? ⟨P, 1, none⟩ = w.cell? ⟨P, 1, none⟩) (hF : w'.cell? ⟨P, 8, none⟩ = some (.int .i64 (fl' : Int)))
    (lf : ∃ f S, LineAt w' P 2 gf s.pool fr' f S) (lr : ∃ f S, LineAt w' P 5 gr s.rxn rx' f S) (lt : ∃ f S, LineAt w' P 9 gt s.txn tx' f S) :
    PortAt w' P gb gf gr gt { s with fr := fr', rx := rx', tx := tx', filled := fl' } := by
  have nb : ¬ (gb = P ∨ gb = gf ∨ gb = gr ∨ gb = gt) := by
    rintro (e | e | e | e)
    · exact h.nPb e.symm
    · exact h.nbf e
    · exact h.nbr e
    · exact h.nbt e
  have hz := lf.choose_spec.choose_spec.fz
  exact ⟨hB.trans h.cB, hS.trans h.cS, hF, hz, lf, lr, lt, fun i hi => k.cell (h.b0 i hi) nb, fun i hi => k.cell (h.b1 i hi) nb, fun i hi => k.cell (h.b2 i hi) nb, fun j => (k.frozen (p := ⟨gb, j, none⟩) h.bl nb).trans (h.bz j),
    fun i b hi hb => k.owns (h.row i b hi hb) (fun q hq e => by
      have hq' : b = q := by simpa [Value.ownBlock] using hq
      have hn := h.nrow i b hi hb
      subst hq'
      rcases e with e | e | e | e
      · exact hn.1 e
      · exact hn.2.2.1 e
      · exact hn.2.2.2.1 e
      · exact hn.2.2.2.2 e), h.nil, h.dl, h.d256, h.sz1, h.sz2, h.p1, h.p2, h.nPb, h.nbf, h.nbr, h.nbt, h.nfr, h.nft, h.nrt, h.nrow, h.nrr⟩
theorem PortAt.freeSet (h : PortAt w P gb gf gr gt s) (k : Ch (fun q => q = P ∨ q = gf) w w') {fr' : List Nat} {f : Nat} {S : List Nat} (l : LineAt w' P 2 gf s.pool fr' f S) (ho : ∀ j, j ≠ 2 + 1 → j ≠ 2 + 2 → w'.cell? ⟨P, j, none⟩ = w.cell? ⟨P, j, none⟩) :
    PortAt w' P gb gf gr gt { s with fr := fr' } := by
  obtain ⟨f2, S2, l2⟩ := h.lr
  obtain ⟨f3, S3, l3⟩ := h.lt
  exact h.lines (k.mono (fun _ _ e => e.elim .inl (fun e => .inr (.inl e)))) (ho 0 (by omega) (by omega)) (ho 1 (by omega) (by omega)) ((ho 8 (by omega) (by omega)).trans h.cF) ⟨f, S, l⟩
    ⟨f2, S2, l2.beside k (fun e => e.elim l2.ne (fun e => h.nfr e.symm)) (fun j _ _ => ho j (by omega) (by omega)) l.fz⟩ ⟨f3, S3, l3.beside k (fun e => e.elim l3.ne (fun e => h.nft e.symm)) (fun j _ _ => ho j (by omega) (by omega)) l.fz⟩
theorem PortAt.rxSet (h : PortAt w P gb gf gr gt s) (k : Ch (fun q => q = P ∨ q = gr) w w') {rx' : List Nat} {f : Nat} {S : List Nat} (l : LineAt w' P 5 gr s.rxn rx' f S) (ho : ∀ j, j ≠ 5 + 1 → j ≠ 5 + 2 → w'.cell? ⟨P, j, none⟩ = w.cell? ⟨P, j, none⟩) :
    PortAt w' P gb gf gr gt { s with rx := rx' } := by
  obtain ⟨f2, S2, l2⟩ := h.lf
  obtain ⟨f3, S3, l3⟩ := h.lt
  exact h.lines (k.mono (fun _ _ e => e.elim .inl (fun e => .inr (.inr (.inl e))))) (ho 0 (by omega) (by omega)) (ho 1 (by omega) (by omega)) ((ho 8 (by omega) (by omega)).trans h.cF)
    ⟨f2, S2, l2.beside k (fun e => e.elim l2.ne (fun e => h.nfr e)) (fun j _ _ => ho j (by omega) (by omega)) l.fz⟩ ⟨f, S, l⟩ ⟨f3, S3, l3.beside k (fun e => e.elim l3.ne (fun e => h.nrt e.symm)) (fun j _ _ => ho j (by omega) (by omega)) l.fz⟩
theorem PortAt.txSet (h : PortAt w P gb gf gr gt s) (k : Ch (fun q => q = P ∨ q = gt) w w') {tx' : List Nat} {f : Nat} {S : List Nat} (l : LineAt w' P 9 gt s.txn tx' f S) (ho : ∀ j, j ≠ 9 + 1 → j ≠ 9 + 2 → w'.cell? ⟨P, j, none⟩ = w.cell? ⟨P, j, none⟩) :
    PortAt w' P gb gf gr gt { s with tx := tx' } := by
  obtain ⟨f2, S2, l2⟩ := h.lf
  obtain ⟨f3, S3, l3⟩ := h.lr
  exact h.lines (k.mono (fun _ _ e => e.elim .inl (fun e => .inr (.inr (.inr e))))) (ho 0 (by omega) (by omega)) (ho 1 (by omega) (by omega)) ((ho 8 (by omega) (by omega)).trans h.cF)
    ⟨f2, S2, l2.beside k (fun e => e.elim l2.ne (fun e => h.nft e)) (fun j _ _ => ho j (by omega) (by omega)) l.fz⟩ ⟨f3, S3, l3.beside k (fun e => e.elim l3.ne (fun e => h.nrt e)) (fun j _ _ => ho j (by omega) (by omega)) l.fz⟩ ⟨f, S, l⟩
/-- how many are filled is another number -/
theorem PortAt.setFilled (h : PortAt w P gb gf gr gt s) (v : Nat) : PortAt (w.setCell ⟨P, 8, none⟩ (.int .i64 (v : Int))) P gb gf gr gt { s with filled := v } := by
  obtain ⟨f1, S1, l1⟩ := h.lf
  obtain ⟨f2, S2, l2⟩ := h.lr
  obtain ⟨f3, S3, l3⟩ := h.lt
  have k : Ch (fun q => q = P) w (w.setCell ⟨P, 8, none⟩ (.int .i64 (v : Int))) := (Ch.refl _ w).set _ _ rfl
  have ho : ∀ j, j ≠ 8 → (w.setCell ⟨P, 8, none⟩ (.int .i64 (v : Int))).cell? ⟨P, j, none⟩ = w.cell? ⟨P, j, none⟩ := fun j hj => gb_other _ _ _ _ _ hj
  have fz : ∀ j, (w.setCell ⟨P, 8, none⟩ (.int .i64 (v : Int))).frozen? ⟨P, j, none⟩ = false := fun j => by rw [World.frozen?_setCell]; exact h.fz j
  exact h.lines (k.mono (fun _ _ e => .inl e)) (ho 0 (by omega)) (ho 1 (by omega)) (World.cell?_setCell_same _ _ _ h.cF)
    ⟨f1, S1, l1.beside k l1.ne (fun j _ _ => ho j (by omega)) fz⟩ ⟨f2, S2, l2.beside k l2.ne (fun j _ _ => ho j (by omega)) fz⟩ ⟨f3, S3, l3.beside k l3.ne (fun j _ _ => ho j (by omega)) fz⟩

set_option maxRecDepth 100000 in
set_option maxHeartbeats 800000 in
theorem window_any (w : World) (P gb gf gr gt : Nat) (s : PS) (h : PortAt w P gb gf gr gt s) (i : Nat) (hi : i < s.pool) (n : Nat) (hn : n ≤ s.size) :
    Calls Try.prog 47 #[.pointer (some ⟨P, 0, none⟩), .int .i64 i, .int .i64 n] w fun e w' => ∃ b, e = .returned (.slice (some ⟨b, 0, none⟩) n n) ∧ Mem1 w P gb gf gr gt s i b w' := by
  have HM : Hid _ := memory_any w P gb gf gr gt s h i hi
  have hs2 := h.sz2
  clear h
  go_enter Try.func47, Try.ntmps47
  go_wp2_with fail
  refine Calls.mono HM.out ?_
  rintro e w' ⟨b, rfl, hm⟩
  have HF : Hid _ := hm
  clear hm HM
  go_wp2
  go_ret
  exact ⟨b, rfl, HF.out⟩
set_option maxRecDepth 100000 in
set_option maxHeartbeats 800000 in
theorem letGo_any (w : World) (P gb gf gr gt : Nat) (s : PS) (h : PortAt w P gb gf gr gt s) (i : Nat) (hi : i < s.pool) (hf : s.fr.length < s.pool) :
    Calls Try.prog 49 #[.pointer (some ⟨P, 0, none⟩), .int .i64 i] w fun e w' => e = .returned (.tuple #[]) ∧ PortAt w' P gb gf gr gt { s with pl := updF s.pl i 1, fr := s.fr ++ [i] } ∧ Ch (fun q => q = P ∨ q = gb ∨ q = gf) w w' := by
  have h1 := h.setPl i 1 hi
  have hB := h.cB
  have hc := h.b0 i hi
  have hfz := h.bz (i * 3)
  have hp2 := h.p2
  obtain ⟨f, S, l⟩ := h1.lf
  have HJ : Hid _ := join_line (w.setCell ⟨gb, i * 3, none⟩ (.int .i64 (1 : Nat))) P 2 gf s.pool i s.fr f S l hf
  have HP : Hid _ := h1
  clear h h1 l hf
  go_enter Try.func49, Try.ntmps49
  go_wp2_with fail
  refine Calls.mono HJ.out ?_
  rintro e w' ⟨rfl, ⟨S', l'⟩, k, ho⟩
  have HF : Hid _ := HP.out.freeSet k l' ho
  have HC : Hid (Ch (fun q => q = P ∨ q = gb ∨ q = gf) w w') := ((Ch.refl (fun q => q = P ∨ q = gb ∨ q = gf) w).set ⟨gb, i * 3, none⟩ (.int .i64 (1 : Nat)) (.inr (.inl rfl))).trans k (fun _ _ e => e.elim .inl (fun e => .inr (.inr e)))
  clear HJ HP l' k ho
  go_wp2
  go_end0
  exact ⟨rfl, HF.out, HC.out⟩
end Go.Proofs.Ythknkfggpdhdbaa
namespace Go.Proofs.Ythknkfggpdhdbaa
open Go.RowKit

theorem PortAt.drew {w : World} {P gb gf gr gt : Nat} {s : PS} (h : PortAt w P gb gf gr gt s) : PortAt w.drew P gb gf gr gt s := h.ch (Ch.refl (fun _ => False) w).drew (fun _ _ => id)
theorem hE_zero {s : PS} {i : Int} (h : hE s i = 0) : ∃ k : Nat, i = (k : Int) ∧ k < s.pool ∧ s.pl k = 4 := by
  unfold hE at h
  split at h
  · cases h
  · split at h
    · rename_i h1 h2
      exact ⟨i.toNat, by omega, by omega, h2⟩
    · cases h
theorem hE_held {s : PS} {k : Nat} (hk : k < s.pool) (h4 : s.pl k = 4) : hE s (k : Int) = 0 := by
  unfold hE
  rw [if_neg (by omega), Int.toNat_natCast, if_pos h4]
set_option maxRecDepth 100000 in
set_option maxHeartbeats 800000 in
theorem Buffer_no (w : World) (P gb gf gr gt : Nat) (s : PS) (h : PortAt w P gb gf gr gt s) (i : Int) (he : hE s i ≠ 0) :
    Calls Try.prog 52 #[.pointer (some ⟨P, 0, none⟩), .int .i64 i] w fun e w' => e = .returned (.tuple #[.slice none 0 0, .int .i64 (hE s i)]) ∧ w = w' := by
  have HH : Hid _ := held_any w P gb gf gr gt s h i
  obtain ⟨v, hv⟩ : ∃ v, v = hE s i := ⟨_, rfl⟩
  rw [← hv] at he HH ⊢
  have hb : (v != 0) = true := by rw [bne_iff_ne]; exact he
  clear he hv h
  go_enter Try.func52, Try.ntmps52
  go_wp2_with fail
  refine Calls.mono HH.out ?_
  rintro e w' ⟨rfl, rfl⟩
  go_wp2
  go_ret2
  exact ⟨rfl, rfl⟩
set_option maxRecDepth 100000 in
set_option maxHeartbeats 800000 in
theorem Buffer_yes (w : World) (P gb gf gr gt : Nat) (s : PS) (h : PortAt w P gb gf gr gt s) (k : Nat) (hk : k < s.pool) (h4 : s.pl k = 4) :
    Calls Try.prog 52 #[.pointer (some ⟨P, 0, none⟩), .int .i64 k] w fun e w' => ∃ b, e = .returned (.tuple #[.slice (some ⟨b, 0, none⟩) s.size s.size, .int .i64 0]) ∧ Mem1 w P gb gf gr gt s k b w' := by
  have HH : Hid _ := held_any w P gb gf gr gt s h k
  rw [hE_held hk h4] at HH
  have HW : Hid _ := window_any w P gb gf gr gt s h k hk s.size (Nat.le_refl _)
  have hS := h.cS
  clear h4 hk h
  go_enter Try.func52, Try.ntmps52
  go_wp2_with fail
  refine Calls.mono HH.out ?_
  rintro e w' ⟨rfl, rfl⟩
  go_wp2_with fail
  refine Calls.mono HW.out ?_
  rintro e w' ⟨b, rfl, hm⟩
  have HF : Hid _ := hm
  clear hm HW HH
  go_wp2
  go_ret2
  exact ⟨b, rfl, HF.out⟩
set_option maxRecDepth 100000 in
set_option maxHeartbeats 800000 in
theorem Release_no (w : World) (P gb gf gr gt : Nat) (s : PS) (h : PortAt w P gb gf gr gt s) (i : Int) (he : hE s i ≠ 0) :
    Calls Try.prog 53 #[.pointer (some ⟨P, 0, none⟩), .int .i64 i] w fun e w' => e = .returned (.int .i64 (hE s i)) ∧ w = w' := by
  have HH : Hid _ := held_any w P gb gf gr gt s h i
  obtain ⟨v, hv⟩ : ∃ v, v = hE s i := ⟨_, rfl⟩
  rw [← hv] at he HH ⊢
  have hb : (v != 0) = true := by rw [bne_iff_ne]; exact he
  clear he hv h
  go_enter Try.func53, Try.ntmps53
  go_wp2_with fail
  refine Calls.mono HH.out ?_
  rintro e w' ⟨rfl, rfl⟩
  go_wp2
  go_ret
  exact ⟨rfl, rfl⟩
set_option maxRecDepth 100000 in
set_option maxHeartbeats 800000 in
theorem Release_yes (w : World) (P gb gf gr gt : Nat) (s : PS) (h : PortAt w P gb gf gr gt s) (k : Nat) (hk : k < s.pool) (h4 : s.pl k = 4) (hf : s.fr.length < s.pool) :
    Calls Try.prog 53 #[.pointer (some ⟨P, 0, none⟩), .int .i64 k] w fun e w' => e = .returned (.int .i64 0) ∧ PortAt w' P gb gf gr gt { s with pl := updF s.pl k 1, fr := s.fr ++ [k] } ∧ Ch (fun q => q = P ∨ q = gb ∨ q = gf) w w' := by
  have HH : Hid _ := held_any w P gb gf gr gt s h k
  rw [hE_held hk h4] at HH
  have HL : Hid _ := letGo_any w P gb gf gr gt s h k hk hf
  clear h4 hk h hf
  go_enter Try.func53, Try.ntmps53
  go_wp2_with fail
  refine Calls.mono HH.out ?_
  rintro e w' ⟨rfl, rfl⟩
  go_wp2_with fail
  refine Calls.mono HL.out ?_
  rintro e w' ⟨rfl, hm⟩
  have HF : Hid _ := hm
  clear hm HL HH
  go_wp2
  go_ret
  exact ⟨rfl, HF.out⟩
/-- what Send answers -/
def sE (s : PS) (i n : Int) : Int := if n < 0 ∨ (s.size : Int) < n then 1 else if hE s i = 0 then (if s.tx.length = s.txn then 32 else 0) else hE s i
set_option maxRecDepth 100000 in
set_option maxHeartbeats 800000 in
theorem Send_no (w : World) (P gb gf gr gt : Nat) (s : PS) (h : PortAt w P gb gf gr gt s) (i n : Int) (he : sE s i n ≠ 0) :
    Calls Try.prog 22 #[.pointer (some ⟨P, 0, none⟩), .int .i64 i, .int .i64 n] w fun e w' => e = .returned (.int .i64 (sE s i n)) ∧ Below w.heap.size w w' := by
  have HW : Hid _ := within_any n 0 (s.size : Int) w
  have hS := h.cS
  have hs2 := h.sz2
  by_cases hr : n < 0 ∨ (s.size : Int) < n
  · have e : sE s i n = 1 := if_pos hr
    rw [e]
    have hd : decide (0 ≤ n ∧ n ≤ (s.size : Int)) = false := decide_eq_false (by omega)
    rw [hd] at HW
    clear e he hr hd h
    go_enter Try.func22, Try.ntmps22
    go_wp2_with fail
    refine Calls.mono HW.out ?_
    rintro e w' ⟨rfl, rfl⟩
    go_wp2
    go_ret
    exact ⟨rfl, Below.refl _ _⟩
  · have hd : decide (0 ≤ n ∧ n ≤ (s.size : Int)) = true := decide_eq_true (by omega)
    rw [hd] at HW
    have HH : Hid _ := held_any w P gb gf gr gt s h i
    by_cases h0 : hE s i = 0
    · have e : sE s i n = if s.tx.length = s.txn then 32 else 0 := by unfold sE; rw [if_neg hr, if_pos h0]
      have ht : s.tx.length = s.txn := by
        by_cases q : s.tx.length = s.txn
        · exact q
        · exact absurd (e.trans (if_neg q)) he
      rw [e, if_pos ht]
      rw [h0] at HH
      obtain ⟨f, S, l⟩ := h.lt
      have HT : Hid _ := full_line w P 9 gt s.txn s.tx f S l
      rw [show ((s.tx.length : Int) == (s.txn : Int)) = true from by rw [ht]; simp] at HT
      clear e he hr hd h h0 ht l
      go_enter Try.func22, Try.ntmps22
      go_wp2_with fail
      refine Calls.mono HW.out ?_
      rintro e w' ⟨rfl, rfl⟩
      go_wp2_with fail
      refine Calls.mono HH.out ?_
      rintro e w' ⟨rfl, rfl⟩
      go_wp2_with fail
      refine Calls.mono HT.out ?_
      rintro e w' ⟨rfl, hb⟩
      have HB : Hid _ := hb
      clear hb
      go_wp2
      go_ret
      exact ⟨rfl, HB.out⟩
    · have e : sE s i n = hE s i := by unfold sE; rw [if_neg hr, if_neg h0]
      rw [e]
      obtain ⟨v, hv⟩ : ∃ v, v = hE s i := ⟨_, rfl⟩
      rw [← hv] at h0 HH ⊢
      have hb : (v != 0) = true := by rw [bne_iff_ne]; exact h0
      clear e he hr hd h h0 hv
      go_enter Try.func22, Try.ntmps22
      go_wp2_with fail
      refine Calls.mono HW.out ?_
      rintro e w' ⟨rfl, rfl⟩
      go_wp2_with fail
      refine Calls.mono HH.out ?_
      rintro e w' ⟨rfl, rfl⟩
      go_wp2
      go_ret
      exact ⟨rfl, Below.refl _ _⟩
set_option maxRecDepth 100000 in
set_option maxHeartbeats 800000 in
theorem Send_yes (w : World) (P gb gf gr gt : Nat) (s : PS) (h : PortAt w P gb gf gr gt s) (k n : Nat) (hk : k < s.pool) (h4 : s.pl k = 4) (hn : n ≤ s.size) (hf : s.tx.length < s.txn) :
    Calls Try.prog 22 #[.pointer (some ⟨P, 0, none⟩), .int .i64 k, .int .i64 n] w fun e w' => e = .returned (.int .i64 0) ∧ PortAt w' P gb gf gr gt { s with pl := updF s.pl k 5, ln := updF s.ln k n, tx := s.tx ++ [k] } ∧ Ch (fun q => q = P ∨ q = gb ∨ q = gt) w w' := by
  have HW : Hid _ := within_any (n : Int) 0 (s.size : Int) w
  rw [show decide ((0 : Int) ≤ (n : Int) ∧ (n : Int) ≤ (s.size : Int)) = true from decide_eq_true (by omega)] at HW
  have HH : Hid _ := held_any w P gb gf gr gt s h k
  rw [hE_held hk h4] at HH
  have hS := h.cS
  have hs2 := h.sz2
  have hp2 := h.p2
  obtain ⟨f, S, l⟩ := h.lt
  have HT : Hid _ := full_line w P 9 gt s.txn s.tx f S l
  rw [show ((s.tx.length : Int) == (s.txn : Int)) = false from beq_eq_false_iff_ne.2 (by omega)] at HT
  have HP : Hid _ := h
  have HL : Hid _ := hf
  clear h h4 l hf
  go_enter Try.func22, Try.ntmps22
  go_wp2_with fail
  refine Calls.mono HW.out ?_
  rintro e w' ⟨rfl, rfl⟩
  go_wp2_with fail
  refine Calls.mono HH.out ?_
  rintro e w' ⟨rfl, rfl⟩
  go_wp2_with fail
  refine Calls.mono HT.out ?_
  rintro e w1 ⟨rfl, hb⟩
  have h1 := HP.out.below hb
  have hB := h1.cB
  have c0 := h1.b0 k hk
  have c1 := h1.b1 k hk
  have z0 := h1.bz (k * 3)
  have z1 := h1.bz (k * 3 + 1)
  have hd0 : w1.drew.cell? ⟨gb, k * 3, none⟩ = some (.int .i64 (s.pl k)) := c0
  have HB : Hid _ := hb
  have H1 : Hid _ := h1
  clear hb h1 HW HH HT
  go_wp2
  try go_region
  all_goals go_wp2_with fail
  have h2 := ((H1.out.setPl k 5 hk).setLn k n hk).drew
  obtain ⟨f', S', l'⟩ := h2.lt
  refine Calls.mono (join_line _ P 9 gt s.txn k s.tx f' S' l' HL.out) ?_
  rintro e w2 ⟨rfl, ⟨S2, l2⟩, k2, ho⟩
  have HF : Hid _ := h2.txSet k2 l2 ho
  have HC : Hid (Ch (fun q => q = P ∨ q = gb ∨ q = gt) w w2) := ((((Ch.ofBelow (S := fun q => q = P ∨ q = gb ∨ q = gt) HB.out).set ⟨gb, k * 3, none⟩ (.int .i64 5) (.inr (.inl rfl))).set ⟨gb, k * 3 + 1, none⟩ (.int .i64 (n : Int)) (.inr (.inl rfl))).drew).trans k2 (fun _ _ e => e.elim .inl (fun e => .inr (.inr e)))
  clear h2 l' l2 k2 ho H1 HB HP
  go_wp2
  go_ret
  exact ⟨rfl, HF.out, HC.out⟩
end Go.Proofs.Ythknkfggpdhdbaa
namespace Go.Proofs.Ythknkfggpdhdbaa
open Go.RowKit

set_option maxRecDepth 100000 in
set_option maxHeartbeats 800000 in
theorem Poll_no (w : World) (P gb gf gr gt : Nat) (s : PS) (h : PortAt w P gb gf gr gt s) (hf : s.filled = 0) :
    Calls Try.prog 20 #[.pointer (some ⟨P, 0, none⟩)] w fun e w' => e = .returned (.tuple #[.int .i64 0, .slice none 0 0, .bool false]) ∧ w = w' := by
  have hF := h.cF
  rw [hf] at hF
  clear h hf
  go_enter Try.func20, Try.ntmps20
  go_wp2
  go_ret3
  exact ⟨rfl, rfl⟩
/-- the port behind a Poll -/
def PS.polled (s : PS) (i b : Nat) (rest : List Nat) (m : Nat) : PS := { s with rx := rest, filled := m, pl := updF s.pl i 4, bb := updF s.bb i (some b) }
set_option maxRecDepth 100000 in
set_option maxHeartbeats 800000 in
theorem Poll_yes (w : World) (P gb gf gr gt : Nat) (s : PS) (h : PortAt w P gb gf gr gt s) (m i : Nat) (rest : List Nat) (hm : s.filled = m + 1) (hm2 : m ≤ 100000) (hx : s.rx = i :: rest) (hi : i < s.pool) (hln : s.ln i ≤ s.size) :
    Calls Try.prog 20 #[.pointer (some ⟨P, 0, none⟩)] w fun e w' => ∃ b, e = .returned (.tuple #[.int .i64 i, .slice (some ⟨b, 0, none⟩) (s.ln i) (s.ln i), .bool true]) ∧
      PortAt w' P gb gf gr gt (s.polled i b rest m) ∧ Ch (fun q => q = P ∨ q = gb) w w' ∧ (s.bb i = some b ∨ (s.bb i = none ∧ w.heap.size ≤ b)) := by
  have hF := h.cF
  rw [hm] at hF
  have hb : (((m + 1 : Nat) : Int) == 0) = false := beq_eq_false_iff_ne.2 (by omega)
  obtain ⟨f, S, l⟩ := h.lr
  rw [hx] at l
  have HL : Hid _ := leave_line w P 5 gr s.rxn i rest f S l
  have HP : Hid _ := h
  have HI : Hid _ := hi
  have HN : Hid _ := hln
  have hp2 := h.p2
  have HX : Hid _ := hm
  clear h l hx hln hm
  go_enter Try.func20, Try.ntmps20
  go_wp2_with fail
  refine Calls.mono HL.out ?_
  rintro e w1 ⟨rfl, l1, k1, ho⟩
  have h1 := HP.out.rxSet (k1.mono (fun _ _ e => .inl e)) l1 ho
  have hc8 := h1.cF
  simp only [HX.out] at hc8
  have f8 := h1.fz 8
  have h2 := h1.setFilled m
  have hB2 := h2.cB
  have c2 := h2.b0 i hi
  have z2 := h2.bz (i * 3)
  have h3 : PortAt ((w1.setCell ⟨P, 8, none⟩ (.int .i64 (m : Int))).setCell ⟨gb, i * 3, none⟩ (.int .i64 4)) P gb gf gr gt { s with rx := rest, filled := m, pl := updF s.pl i 4 } := h2.setPl i 4 hi
  have hB3 := h3.cB
  have c3 := h3.b1 i hi
  simp only at hB2 c2 hB3 c3
  have wq : IntKind.i64.wrap (((m + 1 : Nat) : Int) - 1) = (m : Int) := by rw [i64_small _ (by omega) (by omega)]; omega
  have wq2 : ((m + 1 : Nat) : Int) - 1 = (m : Int) := by omega
  have HW : Hid _ := window_any _ P gb gf gr gt _ h3 i hi (s.ln i) HN.out
  have HC : Hid (Ch (fun q => q = P ∨ q = gb) w ((w1.setCell ⟨P, 8, none⟩ (.int .i64 (m : Int))).setCell ⟨gb, i * 3, none⟩ (.int .i64 4))) := ((k1.mono (fun _ _ e => .inl e)).set _ _ (.inl rfl)).set _ _ (.inr rfl)
  clear h1 h2 h3 k1 l1 ho HL HP
  go_wp2_with fail
  refine Calls.mono HW.out ?_
  rintro e w2 ⟨b, rfl, hm⟩
  have HM : Hid _ := hm
  have hs1 : w.heap.size ≤ ((w1.setCell ⟨P, 8, none⟩ (.int .i64 (m : Int))).setCell ⟨gb, i * 3, none⟩ (.int .i64 4)).heap.size := HC.out.size
  have HS : Hid _ := hs1
  clear hm HW hs1
  go_wp2
  go_ret3
  exact ⟨b, rfl, HM.out.1, HC.out.trans HM.out.2.1 (fun _ _ e => .inr e), HM.out.2.2.imp id (fun e => ⟨e.1, Nat.le_trans HS.out e.2⟩)⟩
end Go.Proofs.Ythknkfggpdhdbaa
namespace Go.Proofs.Ythknkfggpdhdbaa
open Go.RowKit

variable {w w' : World} {P gb gf gr gt : Nat} {s : PS}
/-- a buffer's bytes are others -/
theorem PortAt.setDa (h : PortAt w P gb gf gr gt s) (i b : Nat) (hi : i < s.pool) (hb : s.bb i = some b) (k : Ch (fun q => q = b) w w') (d : List Nat) (hl : d.length = s.size) (h256 : ∀ x ∈ d, x < 256)
    (hr : w'.ownsRow 0 5 1 (.slice (some ⟨b, 0, none⟩) s.size s.size) s.size ((toI d).map (Value.int .u8))) : PortAt w' P gb gf gr gt { s with da := updF s.da i d } := by
  obtain ⟨f1, S1, l1⟩ := h.lf
  obtain ⟨f2, S2, l2⟩ := h.lr
  obtain ⟨f3, S3, l3⟩ := h.lt
  obtain ⟨n1, n2, n3, n4, n5⟩ := h.nrow i b hi hb
  refine ⟨k.cell h.cB n1.symm, k.cell h.cS n1.symm, k.cell h.cF n1.symm, fun j => (k.frozen (p := ⟨P, j, none⟩) h.Pl n1.symm).trans (h.fz j), ⟨f1, S1, l1.ch k n1.symm n3.symm⟩, ⟨f2, S2, l2.ch k n1.symm n4.symm⟩, ⟨f3, S3, l3.ch k n1.symm n5.symm⟩,
    fun i hi => k.cell (h.b0 i hi) n2.symm, fun i hi => k.cell (h.b1 i hi) n2.symm, fun i hi => k.cell (h.b2 i hi) n2.symm, fun j => (k.frozen (p := ⟨gb, j, none⟩) h.bl n2.symm).trans (h.bz j), fun j c hj hc => ?_, fun j hj hn => ?_, fun j hj => ?_, fun j hj => ?_,
    h.sz1, h.sz2, h.p1, h.p2, h.nPb, h.nbf, h.nbr, h.nbt, h.nfr, h.nft, h.nrt, h.nrow, h.nrr⟩
  · by_cases e : j = i
    · subst e
      have : c = b := by simpa [hb] using hc.symm
      subst this
      simp only [updF_same]
      exact hr
    · simp only [updF_other _ _ _ e]
      exact k.owns (h.row j c hj hc) (fun q hq e' => h.nrr j i c hj hi e hc (by simp [Value.ownBlock] at hq; rw [hb, hq, e']))
  · by_cases e : j = i
    · subst e; simp only at hn; rw [hb] at hn; cases hn
    · simp only [updF_other _ _ _ e]; exact h.nil j hj hn
  · by_cases e : j = i
    · subst e; simp only [updF_same]; exact hl
    · simp only [updF_other _ _ _ e]; exact h.dl j hj
  · by_cases e : j = i
    · subst e; simp only [updF_same]; exact h256
    · simp only [updF_other _ _ _ e]; exact h.d256 j hj
theorem setCells_ch (g : Nat) : ∀ (vs : List Value) (o : Nat) (w : World), Ch (fun q => q = g) w (w.setCells g o vs)
  | [], _, w => Ch.refl _ w
  | v :: vs, o, w => ((Ch.refl (fun q => q = g) w).set ⟨g, o, none⟩ v rfl).trans (setCells_ch g vs (o + 1) _) (fun _ _ e => e)
theorem setCells_own {e : TypeId} {g n : Nat} (z : Value) : ∀ (m o : Nat) (w : World) (xs : List Value), w.ownsRow 0 e 1 (.slice (some ⟨g, 0, none⟩) n n) n xs → o + m ≤ n → (w.setCells g o (List.replicate m z)).ownsRow 0 e 1 (.slice (some ⟨g, 0, none⟩) n n) n (xs.take o ++ (List.replicate m z ++ xs.drop (o + m)))
  | 0, o, w, xs, h, _ => by simpa [World.setCells] using h
  | m + 1, o, w, xs, h, hm => by
    have hl := h.1
    have h1 := setCells_own z m (o + 1) _ _ (h.stored o z).1 (by omega)
    have e1 : (w.setCells g o (List.replicate (m + 1) z)) = (w.setCell ⟨g, o, none⟩ z).setCells g (o + 1) (List.replicate m z) := rfl
    rw [e1]
    have e2 : (xs.set o z).take (o + 1) ++ (List.replicate m z ++ (xs.set o z).drop (o + 1 + m)) = xs.take o ++ (List.replicate (m + 1) z ++ xs.drop (o + (m + 1))) := by
      rw [List.drop_set_of_lt (by omega), List.take_add_one, List.take_set_of_le (Nat.le_refl _), List.getElem?_set_self (by omega), show o + 1 + m = o + (m + 1) from by omega, List.replicate_succ]
      simp
    rw [← e2]
    exact h1
theorem Try.zeroByte (w : World) : (zeroValue 5).run Try.prog w = .ok (.int .u8 0) w := by kernel_rfl
set_option maxRecDepth 100000 in
set_option maxHeartbeats 800000 in
theorem Take_no (w : World) (P gb gf gr gt : Nat) (s : PS) (h : PortAt w P gb gf gr gt s) (hf : s.fr = []) :
    Calls Try.prog 51 #[.pointer (some ⟨P, 0, none⟩)] w fun e w' => e = .returned (.tuple #[.int .i64 0, .slice none 0 0, .int .i64 33]) ∧ w = w' := by
  obtain ⟨f, S, l⟩ := h.lf
  have hF := l.c2
  rw [hf] at hF
  simp only [List.length_nil] at hF
  clear h hf l
  go_enter Try.func51, Try.ntmps51
  go_wp2
  go_ret3
  exact ⟨rfl, rfl⟩
/-- the port behind a Take -/
def PS.taken (s : PS) (i b : Nat) (rest : List Nat) : PS := { s with fr := rest, pl := updF s.pl i 4, bb := updF s.bb i (some b), da := updF s.da i (List.replicate s.size 0) }
set_option maxRecDepth 100000 in
set_option maxHeartbeats 800000 in
theorem Take_yes (w : World) (P gb gf gr gt : Nat) (s : PS) (h : PortAt w P gb gf gr gt s) (i : Nat) (rest : List Nat) (hx : s.fr = i :: rest) (hi : i < s.pool) :
    Calls Try.prog 51 #[.pointer (some ⟨P, 0, none⟩)] w fun e w' => ∃ b, e = .returned (.tuple #[.int .i64 i, .slice (some ⟨b, 0, none⟩) s.size s.size, .int .i64 0]) ∧
      PortAt w' P gb gf gr gt (s.taken i b rest) ∧ Ch (fun q => q = P ∨ q = gb ∨ q = b) w w' ∧ (s.bb i = some b ∨ (s.bb i = none ∧ w.heap.size ≤ b)) := by
  obtain ⟨f, S, l⟩ := h.lf
  rw [hx] at l
  have hc := l.c2
  obtain ⟨rl, hrl⟩ : ∃ rl, rl = rest.length := ⟨_, rfl⟩
  simp only [List.length_cons, ← hrl] at hc
  have hb : (((rl + 1 : Nat) : Int) == 0) = false := beq_eq_false_iff_ne.2 (by omega)
  have HL : Hid _ := leave_line w P 2 gf s.pool i rest f S l
  have HP : Hid _ := h
  have hp2 := h.p2
  have hs1 := h.sz1
  have hs2 := h.sz2
  clear h l hx hrl
  go_enter Try.func51, Try.ntmps51
  go_wp2_with fail
  refine Calls.mono HL.out ?_
  rintro e w1 ⟨rfl, l1, k1, ho⟩
  have h1 := HP.out.freeSet (k1.mono (fun _ _ e => .inl e)) l1 ho
  have hB2 := h1.cB
  have c2 := h1.b0 i hi
  have z2 := h1.bz (i * 3)
  have h3 : PortAt (w1.setCell ⟨gb, i * 3, none⟩ (.int .i64 4)) P gb gf gr gt { s with fr := rest, pl := updF s.pl i 4 } := h1.setPl i 4 hi
  have hS3 := h3.cS
  simp only at hB2 c2 hS3
  have HW : Hid _ := window_any _ P gb gf gr gt _ h3 i hi s.size (Nat.le_refl _)
  have HC : Hid (Ch (fun q => q = P ∨ q = gb) w (w1.setCell ⟨gb, i * 3, none⟩ (.int .i64 4))) := (k1.mono (fun _ _ e => .inl e)).set _ _ (.inr rfl)
  clear h1 h3 k1 l1 ho HL HP
  go_wp2_with fail
  refine Calls.mono HW.out ?_
  rintro e w2 ⟨b, rfl, h4, k4, hor⟩
  have hrow : w2.ownsRow 0 5 1 (.slice (some ⟨b, 0, none⟩) s.size s.size) s.size ((toI (s.da i)).map (Value.int .u8)) := h4.row i b hi (updF_same _ _ _)
  have hcl : ∀ ty, (Builtin.clear_ #[43] ty #[.slice (some ⟨b, 0, none⟩) s.size s.size]).run Try.prog w2 = .ok (.tuple #[]) (w2.setCells b 0 (List.replicate s.size (.int .u8 0))) := fun ty =>
    Lib.run_clear_slice w2 _ _ ty (.int .u8 0) Try.underlying43 Try.zeroByte rfl rfl b 0 s.size s.size (by omega) (fun j hj => by
      have hl := hrow.1
      rw [Nat.zero_add, hrow.cellAt j (by simpa using hj), List.getElem?_eq_getElem (by omega)]; rfl) (fun j _ => by rw [Nat.zero_add]; exact hrow.frozenAt j)
  have hrow' := setCells_own (.int .u8 0) s.size 0 w2 _ hrow (by simp)
  have h5 := h4.setDa i b hi (updF_same _ _ _) (setCells_ch b (List.replicate s.size (.int .u8 0)) 0 w2) (List.replicate s.size 0) (by simp) (fun x hx => by rw [List.eq_of_mem_replicate hx]; omega) (by
    have hl := hrow.1
    simp only [List.take_zero, List.nil_append, Nat.zero_add] at hrow'
    rw [List.drop_eq_nil_of_le (by omega), List.append_nil] at hrow'
    rw [toList_made]
    exact hrow')
  have HF : Hid (PortAt _ P gb gf gr gt (s.taken i b rest)) := h5
  have HO : Hid _ := hor
  have HC5 : Hid (Ch (fun q => q = P ∨ q = gb ∨ q = b) w (w2.setCells b 0 (List.replicate s.size (.int .u8 0)))) :=
    ((HC.out.mono (fun _ _ e => e.elim .inl (fun e => .inr (.inl e)))).trans k4 (fun _ _ e => .inr (.inl e))).trans (setCells_ch b _ 0 w2) (fun _ _ e => .inr (.inr e))
  have hsz : w.heap.size ≤ (w1.setCell ⟨gb, i * 3, none⟩ (.int .i64 4)).heap.size := HC.out.size
  have HS : Hid _ := hsz
  clear h4 h5 hrow hrow' k4 HW hor hsz HC
  go_wp2
  go_ret3
  exact ⟨b, rfl, HF.out, HC5.out, HO.out.imp id (fun e => ⟨e.1, Nat.le_trans HS.out e.2⟩)⟩
end Go.Proofs.Ythknkfggpdhdbaa
namespace Go.Proofs.Ythknkfggpdhdbaa
open Go.RowKit

theorem Try.sizeByte : (Try.prog.info? 5).map (·.size) = some 1 := by kernel_rfl
theorem form0 {w : World} {g B n : Nat} {e : TypeId} {xs : List Value} (h : w.ownsRow B e 1 (.slice (some ⟨g, 0, none⟩) n n) n xs) : w.heap[g]? = some (.cells xs.toArray e (0, 0)) ∧ B ≤ g ∧ n ≤ maxLen := by
  rcases h.2 with ⟨h1, _⟩ | ⟨g', cap, cur, h1, hb, hh, hn, hc, hs, ht⟩
  · simp at h1
  · simp only [Value.slice.injEq, Option.some.injEq, Addr.mk.injEq, and_true, true_and] at h1
    obtain ⟨rfl, rfl⟩ := h1
    rw [List.take_of_length_le (by simp; omega)] at ht
    exact ⟨by rw [hh, ← ht], hb, hc⟩
theorem to_own {w : World} {g B n : Nat} {e : TypeId} {xs : List Value} (h : w.heap[g]? = some (.cells xs.toArray e (0, 0))) (hb : B ≤ g) (hn : xs.length = n) (hm : n ≤ maxLen) : w.ownsRow B e 1 (.slice (some ⟨g, 0, none⟩) n n) n xs :=
  ⟨by simpa using hn, .inr ⟨g, n, xs.toArray, rfl, hb, h, Nat.le_refl _, hm, by simpa using hn, by simp; rw [← hn]; simp⟩⟩
/-- copy into a block that stands already -/
theorem wpList_copy_ch {P : Program} {w : World} {ops : Array Oper} {rest : List Oper} {o : Oper} {a : Act} {Q : Exit → Act → World → Prop} (hgd : o.guard = none) (d s : Operand) (dT sT : TypeId)
    (ho : o.op = .call { callee := .builtin .copy, args := #[d, s], argTypes := #[dT, sT] }) (elem : TypeId) (hu : P.underlying dT = some (.slice elem)) (hsz : (P.info? elem).map (·.size) = some 1)
    (dp sp : Option Addr) (dLen dCap sLen sCap : Nat) (hd : a.eval d = .slice dp dLen dCap) (hs : a.eval s = .slice sp sLen sCap)
    (g off : Nat) (cur : List Value) (t : TypeId) (hg : w.heap[g]? = some (.cells cur.toArray t (0, 0))) (cs : List Value) (hn : cs.length = Nat.min sLen dLen)
    (hpos : 0 < cs.length → dp = some ⟨g, off, none⟩ ∧ ∃ ad, sp = some ad ∧ ∀ j v, cs[j]? = some v → w.cell? (ad.add j) = some v)
    (hfit : off + cs.length ≤ cur.length) (h1 : ∀ v ∈ cs, v.oneCell' = true)
    (h : ∀ w', Hid (w'.heap[g]? = some (.cells (splice cur off cs).toArray t (0, 0))) → Ch (fun q => q = g) w w' → wpList P ops Q rest (a.put o.dst (goInt cs.length)) w') :
    wpList P ops Q (o :: rest) a w := by
  by_cases h0 : cs.length = 0
  · obtain rfl : cs = [] := List.eq_nil_of_length_eq_zero h0
    refine wpList_copy_nothing hgd d s dT sT ho elem hu hsz dp sp dLen dCap sLen sCap hd hs (by simpa using hn.symm) ?_
    exact h w (show _ = _ by simpa [splice] using hg) (Ch.refl _ _)
  · obtain ⟨rfl, ad, rfl, hsrc⟩ := hpos (by omega)
    refine wpList_copy_own hgd d s dT sT ho elem hu hsz g off dLen dCap ad sLen sCap hd hs cur.toArray t hg cs hn hsrc (by simpa using hfit) h1 ?_
    exact h _ (show _ = _ by simpa [splice] using setRow_heap w g _ _ t _ hg) ⟨rfl, rfl, rfl, by simp [World.setRow], fun k _ hk => setRow_other w g k _ hk⟩
/-- a row of bytes that came in, as values to be copied -/
theorem seg_cells {w : World} {a : Option Addr} {l : List Nat} (h : Seg .u8 w a (toI l)) (h0 : 0 < ((toI l).map (Value.int .u8)).length) : ∃ ad, a = some ad ∧ ∀ j v, ((toI l).map (Value.int .u8))[j]? = some v → w.cell? (ad.add j) = some v := by
  rcases h with hnil | ⟨b, off, rfl, hc⟩
  · rw [hnil] at h0; simp at h0
  · refine ⟨_, rfl, fun j v hj => ?_⟩
    have hj' : j < (toI l).length := by simpa using (List.getElem?_eq_some_iff.1 hj).1
    rw [Addr.add_lit, hc j hj']
    simp [List.getElem?_eq_getElem hj'] at hj
    rw [← hj]
    simp [List.getD, hj']
/-- what Arrive answers -/
def aE (s : PS) (n : Nat) : Int := if 65535 < n then 2 else if s.size < n then 30 else if s.filled = s.rx.length then 31 else 0
set_option maxRecDepth 100000 in
set_option maxHeartbeats 800000 in
theorem Arrive_no (w : World) (P gb gf gr gt : Nat) (s : PS) (h : PortAt w P gb gf gr gt s) (a : Option Addr) (n c : Nat) (he : aE s n ≠ 0) :
    Calls Try.prog 16 #[.pointer (some ⟨P, 0, none⟩), .slice a n c] w fun e w' => e = .returned (.int .i64 (aE s n)) ∧ Below w.heap.size w w' := by
  have hS := h.cS
  have hF := h.cF
  obtain ⟨f, S, l⟩ := h.lr
  have hR := l.c2
  by_cases h1 : 65535 < n
  · have e : aE s n = 2 := if_pos h1
    rw [e]
    have hd : decide ((65535 : Int) < (n : Int)) = true := decide_eq_true (by omega)
    clear e he h l
    go_enter Try.func16, Try.ntmps16
    go_wp2
    go_ret
    exact ⟨rfl, Below.refl _ _⟩
  · by_cases h2 : s.size < n
    · have e : aE s n = 30 := by unfold aE; rw [if_neg h1, if_pos h2]
      rw [e]
      clear e he h l
      go_enter Try.func16, Try.ntmps16
      go_wp2
      try go_region
      all_goals
        go_wp2
        go_ret
        exact ⟨rfl, by first | exact Below.refl _ _ | exact (Below.refl _ _).drew⟩
    · have e : aE s n = if s.filled = s.rx.length then 31 else 0 := by unfold aE; rw [if_neg h1, if_neg h2]
      have ht : s.filled = s.rx.length := by
        by_cases q : s.filled = s.rx.length
        · exact q
        · exact absurd (e.trans (if_neg q)) he
      rw [e, if_pos ht]
      rw [← ht] at hR
      obtain ⟨x, hx⟩ : ∃ x, x = s.filled := ⟨_, rfl⟩
      rw [← hx] at hR hF
      clear e he h l ht hx
      go_enter Try.func16, Try.ntmps16
      go_wp2
      try go_region
      all_goals
        go_wp2
        try go_region
      all_goals
        go_wp2
        go_ret
        exact ⟨rfl, by first | exact Below.refl _ _ | exact (Below.refl _ _).drew | exact (Below.refl _ _).drew.drew⟩
end Go.Proofs.Ythknkfggpdhdbaa
namespace Go.Proofs.Ythknkfggpdhdbaa
open Go.RowKit

theorem splice0 (cur cs : List Value) : splice cur 0 cs = cs ++ cur.drop cs.length := by simp [splice]
/-- the port behind an Arrive -/
def PS.arrived (s : PS) (i b : Nat) (fr : List Nat) : PS := { s with filled := s.filled + 1, pl := updF s.pl i 3, ln := updF s.ln i fr.length, bb := updF s.bb i (some b), da := updF s.da i (fr ++ (s.da i).drop fr.length) }
set_option maxRecDepth 100000 in
set_option maxHeartbeats 1600000 in
theorem Arrive_yes (w : World) (P gb gf gr gt : Nat) (s : PS) (h : PortAt w P gb gf gr gt s) (a : Option Addr) (c : Nat) (fr : List Nat) (hseg : Seg .u8 w a (toI fr)) (h256 : ∀ x ∈ fr, x < 256) (hap : ∀ x, fr ≠ [] → a = some x → x.block ≠ P ∧ x.block ≠ gb)
    (hn : fr.length ≤ s.size) (hk : s.filled < s.rx.length) (hi : s.rx[s.filled] < s.pool) :
    Calls Try.prog 16 #[.pointer (some ⟨P, 0, none⟩), .slice a fr.length c] w fun e w' => ∃ b, e = .returned (.int .i64 0) ∧
      PortAt w' P gb gf gr gt (s.arrived s.rx[s.filled] b fr) ∧ Ch (fun q => q = P ∨ q = gb ∨ q = b) w w' ∧ (s.bb s.rx[s.filled] = some b ∨ (s.bb s.rx[s.filled] = none ∧ w.heap.size ≤ b)) := by
  have hS := h.cS
  have hF := h.cF
  have hs2 := h.sz2
  have hp2 := h.p2
  obtain ⟨f, S, l⟩ := h.lr
  have hR := l.c2
  have hnb := l.nb
  have hql := l.ql
  obtain ⟨n, hnn⟩ : ∃ n, n = fr.length := ⟨_, rfl⟩
  obtain ⟨i, hii⟩ : ∃ i, i = s.rx[s.filled] := ⟨_, rfl⟩
  obtain ⟨x, hx⟩ : ∃ x, x = s.filled := ⟨_, rfl⟩
  obtain ⟨y, hy⟩ : ∃ y, y = s.rx.length := ⟨_, rfl⟩
  have HA : Hid (Calls Try.prog 44 #[.pointer (some ⟨P, 5, none⟩), .int .i64 x] w.drew.drew fun e w' => e = .returned (.int .i64 (i : Int)) ∧ Below w.drew.drew.heap.size w.drew.drew w') := by
    have := at_line w.drew.drew P 5 gr s.rxn s.rx f S ((l.ch (Ch.refl (fun _ => False) w).drew id id).ch (Ch.refl (fun _ => False) w.drew).drew id id) s.filled hk
    rw [← hii, ← hx] at this
    exact this
  rw [← hii] at hi ⊢
  rw [← hnn] at hn ⊢
  rw [← hx] at hF
  rw [← hy] at hR
  have hxy : x < y := by omega
  have hyb : y ≤ 100000 := by omega
  have hd1 : decide ((65535 : Int) < (n : Int)) = false := decide_eq_false (by omega)
  have hd2 : decide ((s.size : Int) < (n : Int)) = false := decide_eq_false (by omega)
  have hd3 : ((x : Int) == (y : Int)) = false := beq_eq_false_iff_ne.2 (by omega)
  have HP : Hid _ := h
  have HX : Hid (x = s.filled) := hx
  have HN : Hid (n = fr.length) := hnn
  have HSG : Hid _ := hseg
  clear h l hx hy hnn hii hk hseg
  go_enter Try.func16, Try.ntmps16
  go_wp2
  try go_region
  go_wp2
  go_region_with (go_at_call 44; refine Calls.mono HA.out ?_; rintro e w1 ⟨rfl, hb1⟩)
  have hB1 : Below w.heap.size w w1 := ((Below.refl _ _).drew.drew).trans hb1
  have h1 := HP.out.below hB1
  have F1 := h1.cF
  rw [← HX.out] at F1
  have f8 := h1.fz 8
  have wq : IntKind.i64.wrap ((x : Int) + 1) = (x : Int) + 1 := i64_small _ (by omega) (by omega)
  have h2 : PortAt (w1.setCell ⟨P, 8, none⟩ (.int .i64 ((x : Int) + 1))) P gb gf gr gt { s with filled := x + 1 } := h1.setFilled (x + 1)
  have HM : Hid _ := memory_any _ P gb gf gr gt _ h2 i hi
  have K2 : Hid (Ch (fun q => q = P) w (w1.setCell ⟨P, 8, none⟩ (.int .i64 ((x : Int) + 1)))) := (Ch.ofBelow (S := fun q => q = P) hB1).set _ _ rfl
  clear hB1 h1 h2 hb1 HA HP
  go_wp2_with fail
  refine Calls.mono HM.out ?_
  rintro e w2 ⟨b, rfl, h3, k3, hor⟩
  have hrow : w2.ownsRow 0 5 1 (.slice (some ⟨b, 0, none⟩) s.size s.size) s.size ((toI (s.da i)).map (Value.int .u8)) := h3.row i b hi (updF_same _ _ _)
  have hg2 := (form0 hrow).1
  have hdl : (s.da i).length = s.size := h3.dl i hi
  have hd256 : ∀ x ∈ s.da i, x < 256 := h3.d256 i hi
  have hs2' : Seg .u8 w2 a (toI fr) := k3.seg (K2.out.seg HSG.out (fun z hz e => (hap z (fun e' => hz (by rw [e']; rfl)) e).1)) (fun z hz e => (hap z (fun e' => hz (by rw [e']; rfl)) e).2)
  obtain ⟨cur, hcur⟩ : ∃ cur, cur = (toI (s.da i)).map (Value.int .u8) := ⟨_, rfl⟩
  obtain ⟨cs, hcs⟩ : ∃ cs, cs = (toI fr).map (Value.int .u8) := ⟨_, rfl⟩
  have HCL : Hid (cs.length = n) := by show _ = _; rw [hcs, HN.out]; simp [toI]
  have HUL : Hid (cur.length = s.size) := by show _ = _; rw [hcur, ← hdl]; simp [toI]
  have HC1 : Hid (∀ v ∈ cs, v.oneCell' = true) := by
    intro v hv; rw [hcs] at hv; obtain ⟨z, _, rfl⟩ := List.mem_map.1 hv; rfl
  have HSC : Hid (0 < cs.length → ∃ ad, a = some ad ∧ ∀ j v, cs[j]? = some v → w2.cell? (ad.add j) = some v) := by rw [hcs]; exact seg_cells hs2'
  rw [← hcur] at hg2
  have HE : Hid (splice cur 0 cs = (toI (fr ++ (s.da i).drop fr.length)).map (Value.int .u8)) := by
    show _ = _
    rw [splice0, hcur, hcs]
    simp [toI]
  have HDL : Hid ((fr ++ (s.da i).drop fr.length).length = s.size) := by
    show _ = _
    have := HN.out
    simp [hdl]; omega
  have HD2 : Hid (∀ x ∈ fr ++ (s.da i).drop fr.length, x < 256) := by
    intro x hx
    rcases List.mem_append.1 hx with hx | hx
    · exact h256 x hx
    · exact hd256 x (List.mem_of_mem_drop hx)
  have H3 : Hid _ := h3
  have K3 : Hid (Ch (fun q => q = P ∨ q = gb ∨ q = b) w w2) := (K2.out.mono (fun _ _ e => .inl e)).trans k3 (fun _ _ e => .inr (.inl e))
  have HO : Hid (s.bb i = some b ∨ (s.bb i = none ∧ w.heap.size ≤ b)) := hor.imp id (fun e => ⟨e.1, Nat.le_trans K2.out.size e.2⟩)
  clear hcur hcs hrow hdl hd256 hs2' h3 k3 hor HM K2 HSG hap h256
  go_wp2_with (first | (refine wpList_copy_ch rfl _ _ 43 43 rfl 5 Try.underlying43 Try.sizeByte _ _ _ _ _ _ rfl rfl b 0 cur 5 hg2 cs (by rw [HCL.out]; show n = min n s.size; omega) (fun h0 => ⟨rfl, HSC.out h0⟩) (by rw [HCL.out, HUL.out]; omega) HC1.out ?_))
  intro w3 HG3 k5
  have ho3 : w3.ownsRow 0 5 1 (.slice (some ⟨b, 0, none⟩) s.size s.size) s.size ((toI (fr ++ (s.da i).drop fr.length)).map (Value.int .u8)) := by
    have e := HG3.out
    rw [HE.out] at e
    exact to_own e (Nat.zero_le _) (by have := HDL.out; simp only [toI, List.length_map]; exact this) (by unfold maxLen; omega)
  have h5 := H3.out.setDa i b hi (updF_same _ _ _) k5 (fr ++ (s.da i).drop fr.length) HDL.out HD2.out ho3
  have hB5 := h5.cB
  have c0 := h5.b0 i hi
  have c1 := h5.b1 i hi
  have z0 := h5.bz (i * 3)
  have z1 := h5.bz (i * 3 + 1)
  simp only at hB5 c0 c1
  have HF : Hid (PortAt ((w3.setCell ⟨gb, i * 3, none⟩ (.int .i64 3)).setCell ⟨gb, i * 3 + 1, none⟩ (.int .i64 (n : Int))).drew P gb gf gr gt (s.arrived i b fr)) := by
    have := ((h5.setPl i 3 hi).setLn i n hi).drew
    have e1 := HN.out
    have e2 := HX.out
    subst e1
    subst e2
    exact this
  have HK : Hid (Ch (fun q => q = P ∨ q = gb ∨ q = b) w ((w3.setCell ⟨gb, i * 3, none⟩ (.int .i64 3)).setCell ⟨gb, i * 3 + 1, none⟩ (.int .i64 (n : Int))).drew) :=
    (((K3.out.trans k5 (fun _ _ e => .inr (.inr e))).set ⟨gb, i * 3, none⟩ (.int .i64 3) (.inr (.inl rfl))).set ⟨gb, i * 3 + 1, none⟩ (.int .i64 (n : Int)) (.inr (.inl rfl))).drew
  clear h5 k5 ho3 HG3 H3 K3 hg2
  go_wp2
  try go_region
  go_wp2
  go_ret
  exact ⟨b, rfl, HF.out, HK.out, HO.out⟩
end Go.Proofs.Ythknkfggpdhdbaa
namespace Go.Proofs.Ythknkfggpdhdbaa
open Go.RowKit

set_option maxRecDepth 100000 in
set_option maxHeartbeats 800000 in
theorem Drain_no (w : World) (P gb gf gr gt : Nat) (s : PS) (h : PortAt w P gb gf gr gt s) (hf : s.tx = []) :
    Calls Try.prog 23 #[.pointer (some ⟨P, 0, none⟩)] w fun e w' => e = .returned (.tuple #[.slice none 0 0, .bool false]) ∧ w = w' := by
  obtain ⟨f, S, l⟩ := h.lt
  have hF := l.c2
  rw [hf] at hF
  simp only [List.length_nil] at hF
  clear h hf l
  go_enter Try.func23, Try.ntmps23
  go_wp2
  go_ret2
  exact ⟨rfl, rfl⟩
/-- the port behind a Drain -/
def PS.drained (s : PS) (i b : Nat) (rest : List Nat) : PS := { s with tx := rest, pl := updF s.pl i 1, bb := updF s.bb i (some b), fr := s.fr ++ [i] }
theorem PortAt.rowlt {w : World} {P gb gf gr gt : Nat} {s : PS} (h : PortAt w P gb gf gr gt s) {q : Nat} (hq : PB P gb gf gr gt s q) : q < w.heap.size := by
  obtain ⟨_, _, l1⟩ := h.lf
  obtain ⟨_, _, l2⟩ := h.lr
  obtain ⟨_, _, l3⟩ := h.lt
  rcases hq with rfl | rfl | rfl | rfl | rfl | ⟨i, hi, hb⟩
  · exact h.Pl
  · exact h.bl
  · exact (l1.row.lt _ rfl).2
  · exact (l2.row.lt _ rfl).2
  · exact (l3.row.lt _ rfl).2
  · exact ((h.row i q hi hb).lt q rfl).2
set_option maxRecDepth 100000 in
set_option maxHeartbeats 1600000 in
theorem Drain_yes (w : World) (P gb gf gr gt : Nat) (s : PS) (h : PortAt w P gb gf gr gt s) (i : Nat) (rest : List Nat) (hx : s.tx = i :: rest) (hi : i < s.pool) (hln : s.ln i ≤ s.size) (hf : s.fr.length < s.pool) :
    Calls Try.prog 23 #[.pointer (some ⟨P, 0, none⟩)] w fun e w' => ∃ g b, e = .returned (.tuple #[.slice (some ⟨g, 0, none⟩) (s.ln i) (s.ln i), .bool true]) ∧
      w'.ownsRow w.heap.size 5 1 (.slice (some ⟨g, 0, none⟩) (s.ln i) (s.ln i)) (s.ln i) ((toI ((s.da i).take (s.ln i))).map (Value.int .u8)) ∧
      PortAt w' P gb gf gr gt (s.drained i b rest) ∧ Ch (fun q => q = P ∨ q = gb ∨ q = gf) w w' ∧ (s.bb i = some b ∨ (s.bb i = none ∧ w.heap.size ≤ b)) ∧ g ≠ b := by
  obtain ⟨i0, hii, hz0, hz1, hz2⟩ := info_parts Try.infoByte
  obtain ⟨f, S, l⟩ := h.lt
  rw [hx] at l
  have hc := l.c2
  obtain ⟨rl, hrl⟩ : ∃ rl, rl = rest.length := ⟨_, rfl⟩
  simp only [List.length_cons, ← hrl] at hc
  have hb : (((rl + 1 : Nat) : Int) == 0) = false := beq_eq_false_iff_ne.2 (by omega)
  have HL : Hid _ := leave_line w P 9 gt s.txn i rest f S l
  have HP : Hid _ := h
  have hp2 := h.p2
  have hs1 := h.sz1
  have hs2 := h.sz2
  obtain ⟨n, hnn⟩ : ∃ n, n = s.ln i := ⟨_, rfl⟩
  rw [← hnn] at hln ⊢
  have HN : Hid (n = s.ln i) := hnn
  have HFR : Hid _ := hf
  clear h l hx hrl hnn hf
  go_enter Try.func23, Try.ntmps23
  go_wp2_with fail
  refine Calls.mono HL.out ?_
  rintro e w1 ⟨rfl, l1, k1, ho⟩
  have h1 := HP.out.txSet (k1.mono (fun _ _ e => .inl e)) l1 ho
  have hB1 := h1.cB
  have c1 := h1.b1 i hi
  simp only [← HN.out] at hB1 c1
  have H1 : Hid _ := h1
  have K1 : Hid _ := k1
  clear h1 k1 l1 ho HL HP
  go_wp2_with (first | (at_make; refine wpList_make_full _ rfl _ _ 43 rfl w1.heap.size 5 i0 (.int .u8 0) 1 Try.underlying43 hii hz0 hz1 .i64 .i64 _ _ n rfl rfl rfl rfl (by rw [hz2]; omega) (by unfold maxLen; omega) (Nat.le_refl _) ?_))
  intro w2 hown hgr
  rw [toList_madeCells_one] at hown
  have h2 := H1.out.ch (Ch.ofGrown hgr) (fun q _ e => by cases e)
  have HM : Hid _ := memory_any _ P gb gf gr gt _ h2 i hi
  have K2 : Hid (Ch (fun q => q = P) w w2) := K1.out.trans (Ch.ofGrown hgr) (fun _ _ e => by cases e)
  obtain ⟨g, hg⟩ : ∃ g, g = w1.heap.size := ⟨_, rfl⟩
  rw [← hg] at hown ⊢
  have HG0 : Hid (g = w1.heap.size) := hg
  have HOW : Hid _ := hown
  have HLT : Hid (g < w2.heap.size) := (hown.lt g rfl).2
  clear h2 hown hgr hg
  go_wp2_with fail
  refine Calls.mono HM.out ?_
  rintro e w3 ⟨b, rfl, h3, k3, hor⟩
  have hgne : ∀ q, PB P gb gf gr gt { s with tx := rest, bb := updF s.bb i (some b) } q → q ≠ g := by
    intro q hq
    have e0 := HG0.out
    rcases hq with e | e | e | e | e | ⟨j, hj, hbj⟩
    · have := H1.out.rowlt (q := q) (.inl e); omega
    · have := H1.out.rowlt (q := q) (.inr (.inl e)); omega
    · have := H1.out.rowlt (q := q) (.inr (.inr (.inl e))); omega
    · have := H1.out.rowlt (q := q) (.inr (.inr (.inr (.inl e)))); omega
    · have := H1.out.rowlt (q := q) (.inr (.inr (.inr (.inr (.inl e))))); omega
    · have hbj : updF s.bb i (some b) j = some q := hbj
      by_cases e : j = i
      · subst e
        rw [updF_same] at hbj
        simp only [Option.some.injEq] at hbj
        subst hbj
        rcases hor with hh | ⟨_, hh⟩
        · have := H1.out.rowlt (q := b) (.inr (.inr (.inr (.inr (.inr ⟨j, hj, hh⟩))))); omega
        · have := HLT.out; omega
      · rw [updF_other _ _ _ e] at hbj
        have := H1.out.rowlt (q := q) (.inr (.inr (.inr (.inr (.inr ⟨j, hj, hbj⟩))))); omega
  have gP := hgne P (.inl rfl)
  have gG := hgne gb (.inr (.inl rfl))
  have gF := hgne gf (.inr (.inr (.inl rfl)))
  have gB := hgne b (.inr (.inr (.inr (.inr (.inr ⟨i, hi, updF_same _ _ _⟩)))))
  have hrow : w3.ownsRow 0 5 1 (.slice (some ⟨b, 0, none⟩) s.size s.size) s.size ((toI (s.da i)).map (Value.int .u8)) := h3.row i b hi (updF_same _ _ _)
  have hg3 := (form0 (k3.owns HOW.out (fun q hq e => gG (by simp [Value.ownBlock] at hq; omega)))).1
  have hdl : (s.da i).length = s.size := h3.dl i hi
  obtain ⟨cur, hcur⟩ : ∃ cur, cur = List.replicate n (Value.int IntKind.u8 0) := ⟨_, rfl⟩
  obtain ⟨cs, hcs⟩ : ∃ cs, cs = (toI ((s.da i).take n)).map (Value.int .u8) := ⟨_, rfl⟩
  rw [← hcur] at hg3
  have HCS : Hid (cs = (toI ((s.da i).take n)).map (Value.int .u8)) := hcs
  have HCL : Hid (cs.length = n) := by show _ = _; rw [hcs]; simp [toI, hdl]; omega
  have HUL : Hid (cur.length = n) := by show _ = _; rw [hcur]; simp
  have HC1 : Hid (∀ v ∈ cs, v.oneCell' = true) := by
    intro v hv; rw [hcs] at hv; obtain ⟨z, _, rfl⟩ := List.mem_map.1 hv; rfl
  have HSC : Hid (∀ j v, cs[j]? = some v → w3.cell? ((⟨b, 0, none⟩ : Addr).add j) = some v) := by
    intro j v hj
    have hjl : j < n := by have := (List.getElem?_eq_some_iff.1 hj).1; have := HCL.out; omega
    rw [Addr.add_lit, Nat.zero_add, hrow.cellAt j (by omega), ← hj, hcs]
    simp [toI, hjl]
  have HE : Hid (splice cur 0 cs = cs) := by
    show _ = _
    rw [splice0, List.drop_eq_nil_of_le (by rw [HCL.out, HUL.out]; exact Nat.le_refl _), List.append_nil]
  have H3 : Hid _ := h3
  have HGN : Hid _ := hgne
  have K3 : Hid (Ch (fun q => q = P ∨ q = gb ∨ q = gf) w w3) := (K2.out.mono (fun _ _ e => .inl e)).trans k3 (fun _ _ e => .inr (.inl e))
  have HO : Hid (s.bb i = some b ∨ (s.bb i = none ∧ w.heap.size ≤ b)) := hor.imp id (fun e => ⟨e.1, Nat.le_trans K2.out.size e.2⟩)
  have HGW : Hid (w.heap.size ≤ g) := by have e := HG0.out; rw [e]; exact K1.out.size
  have HNE : Hid (g ≠ b ∧ g ≠ P ∧ g ≠ gb ∧ g ≠ gf) := ⟨gB.symm, gP.symm, gG.symm, gF.symm⟩
  clear hcur hcs hrow hdl h3 k3 hor HM K2 hgne gP gG gF gB HOW HLT H1 K1
  go_wp2_with (first | (refine wpList_copy_ch rfl _ _ 43 43 rfl 5 Try.underlying43 Try.sizeByte _ _ _ _ _ _ rfl rfl g 0 cur 5 hg3 cs (by rw [HCL.out]; show n = min s.size n; omega) (fun h0 => ⟨rfl, _, rfl, HSC.out⟩) (by rw [HCL.out, HUL.out]; omega) HC1.out ?_))
  intro w4 HG4 k4
  have ho4 : w4.ownsRow w.heap.size 5 1 (.slice (some ⟨g, 0, none⟩) n n) n cs := by
    have e := HG4.out
    rw [HE.out] at e
    exact to_own e HGW.out HCL.out (by unfold maxLen; omega)
  have h4 := H3.out.ch k4 HGN.out
  have HLG : Hid _ := letGo_any w4 P gb gf gr gt _ h4 i hi HFR.out
  have K4 : Hid (Ch (fun q => q = P ∨ q = gb ∨ q = gf) w w4) := K3.out.trans k4 (fun x hx e => absurd HGW.out (by omega))
  have HO4 : Hid _ := ho4
  clear ho4 h4 HG4 k4 hg3 H3 K3 HGN
  go_wp2_with fail
  refine Calls.mono HLG.out ?_
  rintro e w5 ⟨rfl, h5, k5⟩
  have HF : Hid (PortAt w5 P gb gf gr gt (s.drained i b rest)) := h5
  have HK : Hid (Ch (fun q => q = P ∨ q = gb ∨ q = gf) w w5) := K4.out.trans k5 (fun _ _ e => e)
  have HO5 : Hid _ := k5.owns HO4.out (fun q hq e => by
    have hq' : g = q := by simpa [Value.ownBlock] using hq
    obtain ⟨_, a1, a2, a3⟩ := HNE.out
    rcases e with e | e | e <;> omega)
  clear h5 k5 HLG HO4 K4
  go_wp2
  go_ret2
  exact ⟨g, b, rfl, (by have e := HCS.out; rw [← e]; exact HO5.out), HF.out, HK.out, HO.out, HNE.out.1⟩
end Go.Proofs.Ythknkfggpdhdbaa
namespace Go.Proofs.Ythknkfggpdhdbaa
open Go.RowKit

set_option maxRecDepth 100000 in
set_option maxHeartbeats 800000 in
theorem Places_any (w : World) (P gb gf gr gt : Nat) (s : PS) (h : PortAt w P gb gf gr gt s) :
    Calls Try.prog 28 #[.pointer (some ⟨P, 0, none⟩)] w fun e w' => ∃ g, e = .returned (.slice (some ⟨g, 0, none⟩) s.pool s.pool) ∧
      w'.ownsRow w.heap.size 3 1 (.slice (some ⟨g, 0, none⟩) s.pool s.pool) s.pool (nV ((List.range s.pool).map s.pl)) ∧ Below w.heap.size w w' := by
  obtain ⟨i0, hii, hz0, hz1, hz2⟩ := info_parts Try.infoInt
  have hB := h.cB
  have hp2 := h.p2
  have hPl := h.Pl
  have HP : Hid _ := h
  obtain ⟨N, hN⟩ : ∃ N, N = s.pool := ⟨_, rfl⟩
  have HN : Hid (N = s.pool) := hN
  rw [← hN] at hB hp2 ⊢
  clear h hN
  go_enter Try.func28, Try.ntmps28
  go_wp2_with (first | (at_make; refine wpList_make_full _ rfl _ _ 69 rfl w.heap.size 3 i0 (.int .i64 0) 1 Try.underlying69 hii hz0 hz1 .i64 .i64 _ _ N rfl rfl rfl rfl (by rw [hz2]; omega) (by unfold maxLen; omega) (Nat.le_refl _) ?_))
  intro w1 hown hgr
  rw [toList_madeCells_one] at hown
  have hb1 : Below w.heap.size w w1 := (Below.refl _ _).grown hgr (Nat.le_refl _) (by intro k hk; cases hk)
  obtain ⟨g, hg⟩ : ∃ g, g = w.heap.size := ⟨_, rfl⟩
  have hgw : w.heap.size ≤ g := by omega
  have hown' : w1.ownsRow w.heap.size 3 1 (.slice (some ⟨g, 0, none⟩) N N) N (List.replicate N (.int .i64 0)) := by rw [hg]; exact hown
  rw [← hg]
  have hB1 : w1.cell? ⟨P, 0, none⟩ = some (.slice (some ⟨gb, 0, none⟩) N N) := (hb1.cell hPl).trans hB
  clear hown hgr hg
  go_wp2
  go_loopw [16] (fun ix wr => ∃ k : Nat, k ≤ N ∧ ix = .int .i64 k ∧ wr.ownsRow w.heap.size 3 1 (.slice (some ⟨g, 0, none⟩) N N) N (nV ((List.range k).map s.pl ++ List.replicate (N - k) 0)) ∧ Below w.heap.size w wr) (fun ix _ => N - (intOf ix).toNat)
  case atStart => exact ⟨0, Nat.zero_le _, rfl, by simpa [nV] using hown', hb1⟩
  case round =>
    obtain ⟨k, hk, rfl, ho, hbel⟩ := hrel
    have HO : Hid _ := ho
    by_cases hlt : k < N
    · have hc : ∃ z, wr.cell? ⟨g, k, none⟩ = some z := by
        have hxl := ho.1
        have := ho.cellAt k (by omega)
        rw [List.getElem?_eq_getElem (by omega)] at this
        exact ⟨_, this⟩
      obtain ⟨z, hz⟩ := hc
      have hfz := ho.frozenAt k
      have hr := HP.out.below hbel
      have hBr := hr.cB
      rw [← HN.out] at hBr
      have cr := hr.b0 k (by have := HN.out; omega)
      obtain ⟨hst, hgr⟩ := ho.stored k (.int .i64 (s.pl k : Int))
      have hbel2 : Below w.heap.size w (wr.setCell ⟨g, k, none⟩ (.int .i64 (s.pl k : Int))) := hbel.grown hgr hbel.size (fun j hj => by simp at hj; omega)
      have he : (nV ((List.range k).map s.pl ++ List.replicate (N - k) 0)).set k (.int .i64 (s.pl k : Int)) = nV ((List.range (k + 1)).map s.pl ++ List.replicate (N - (k + 1)) 0) := by
        rw [List.range_succ, show N - k = (N - (k + 1)) + 1 from by omega, List.replicate_succ]
        simp [nV]
      rw [he] at hst
      have HST : Hid _ := hst
      clear hgr hst ho he hr
      go_wp2
      go_roundw
      case rel => exact ⟨k + 1, by omega, by go_num, HST.out, hbel2⟩
      case measure => simp [intOf]; omega
    · obtain rfl : k = N := by omega
      clear ho
      go_wp2
      go_ret
      refine ⟨g, rfl, ?_, hbel⟩
      have e : (List.range k).map s.pl ++ List.replicate (k - k) 0 = (List.range k).map s.pl := by simp
      rw [← e]
      exact HO.out
end Go.Proofs.Ythknkfggpdhdbaa
namespace Go.Proofs.Ythknkfggpdhdbaa
open Go.RowKit

/-- the port behind a Refill of k buffers -/
def PS.refilled (s : PS) (k : Nat) : PS := { s with fr := s.fr.drop k, rx := s.rx ++ s.fr.take k, pl := fun j => if j ∈ s.fr.take k then 2 else s.pl j }
theorem PS.refilled_zero (s : PS) : s.refilled 0 = s := by simp [PS.refilled]
theorem PS.refilled_succ (s : PS) (k : Nat) (hk : k < s.fr.length) : { s.refilled k with fr := s.fr.drop (k + 1), pl := updF (s.refilled k).pl s.fr[k] 2, rx := (s.refilled k).rx ++ [s.fr[k]] } = s.refilled (k + 1) := by
  have e : s.fr.take (k + 1) = s.fr.take k ++ [s.fr[k]] := by rw [List.take_add_one, List.getElem?_eq_getElem hk]; rfl
  unfold PS.refilled
  rw [e]
  simp only [List.append_assoc, PS.mk.injEq, true_and, and_true]
  funext j
  unfold updF
  simp only [List.mem_append, List.mem_singleton]
  by_cases h1 : j = s.fr[k]
  · rw [if_pos h1, if_pos (.inr h1)]
  · rw [if_neg h1]
    simp [h1]
set_option maxRecDepth 100000 in
set_option maxHeartbeats 1600000 in
theorem Refill_any (w : World) (P gb gf gr gt : Nat) (s : PS) (h : PortAt w P gb gf gr gt s) (n : Int) (hfr : ∀ x ∈ s.fr, x < s.pool) :
    Calls Try.prog 15 #[.pointer (some ⟨P, 0, none⟩), .int .i64 n] w fun e w' => ∃ k : Nat, k = min n.toNat (min s.fr.length (s.rxn - s.rx.length)) ∧ e = .returned (.int .i64 (k : Int)) ∧
      PortAt w' P gb gf gr gt (s.refilled k) ∧ Ch (fun q => q = P ∨ q = gb ∨ q = gr) w w' := by
  obtain ⟨m, hm⟩ : ∃ m, m = min n.toNat (min s.fr.length (s.rxn - s.rx.length)) := ⟨_, rfl⟩
  have hrx : s.rx.length ≤ s.rxn := by obtain ⟨_, _, l⟩ := h.lr; exact l.ql
  have hfl : s.fr.length ≤ s.pool := by obtain ⟨_, _, l⟩ := h.lf; exact l.ql
  have hp2 := h.p2
  have hmn : m ≤ n.toNat := by omega
  have hmf : m ≤ s.fr.length := by omega
  have hmr : m ≤ s.rxn - s.rx.length := by omega
  have hend : m = n.toNat ∨ m = s.fr.length ∨ m + s.rx.length = s.rxn := by omega
  have hm2 : m ≤ 8192 := by omega
  have HM : Hid _ := hm
  have HEND : Hid _ := hend
  have HRX : Hid _ := hrx
  have HFRX : Hid _ := hfr
  clear hm hend hrx hfr
  go_enter Try.func15, Try.ntmps15
  go_wp2
  go_loopw [5] (fun pv wr => ∃ k : Nat, k ≤ m ∧ pv = .int .i64 k ∧ Hid (PortAt wr P gb gf gr gt (s.refilled k)) ∧ Hid (Ch (fun q => q = P ∨ q = gb ∨ q = gr) w wr)) (fun pv _ => m - (intOf pv).toNat)
  case atStart => exact ⟨0, Nat.zero_le _, rfl, by rw [PS.refilled_zero]; exact h, Ch.refl _ _⟩
  case round =>
    clear h
    obtain ⟨k, hk, rfl, HR, HK⟩ := hrel
    obtain ⟨f1, S1, l1⟩ := HR.out.lf
    obtain ⟨f2, S2, l2⟩ := HR.out.lr
    have hc := l1.c2
    have hcl : (s.refilled k).fr.length = s.fr.length - k := by simp [PS.refilled]
    have hrl : (s.refilled k).rx.length = s.rx.length + k := by simp [PS.refilled]; omega
    rw [hcl] at hc
    obtain ⟨r, hr⟩ : ∃ r, r = s.fr.length - k := ⟨_, rfl⟩
    rw [← hr] at hc
    have HF : Hid _ := full_line wr P 5 gr s.rxn _ f2 S2 l2
    rw [hrl] at HF
    by_cases hlt : k < m
    · have hkf : k < s.fr.length := by omega
      have d1 : decide ((k : Int) < n) = true := decide_eq_true (by omega)
      have d2 : decide ((0 : Int) < (r : Int)) = true := decide_eq_true (by omega)
      have r0 : 0 < r := by omega
      have hkn : (k : Int) < n := by omega
      rw [show (((s.rx.length + k : Nat) : Int) == (s.rxn : Int)) = false from beq_eq_false_iff_ne.2 (by have := HRX.out; omega)] at HF
      clear hr hcl hrl l1 l2
      go_wp2_with fail
      refine Calls.mono HF.out ?_
      rintro e w1 ⟨rfl, hb1⟩
      have h1 := HR.out.below hb1
      obtain ⟨f3, S3, l3⟩ := h1.lf
      have hdr : (s.refilled k).fr = s.fr[k] :: s.fr.drop (k + 1) := List.drop_eq_getElem_cons hkf
      rw [hdr] at l3
      obtain ⟨i, hi⟩ : ∃ i, i = s.fr[k] := ⟨_, rfl⟩
      have hip : i < s.pool := by rw [hi]; exact HFRX.out _ (List.getElem_mem hkf)
      rw [← hi] at l3
      have HL : Hid _ := leave_line w1 P 2 gf s.pool i _ f3 S3 l3
      have H1 : Hid _ := h1
      have HB1 : Hid _ := hb1
      have HI : Hid (i = s.fr[k]) := hi
      clear h1 hb1 l3 hdr HF hi
      go_wp2_with fail
      refine Calls.mono HL.out ?_
      rintro e w2 ⟨rfl, l4, k4, ho4⟩
      have h2 := H1.out.freeSet (k4.mono (fun _ _ e => .inl e)) l4 ho4
      have hB2 := h2.cB
      have c2 := h2.b0 i hip
      have z2 := h2.bz (i * 3)
      have h3 : PortAt (w2.setCell ⟨gb, i * 3, none⟩ (.int .i64 2)) P gb gf gr gt { s.refilled k with fr := s.fr.drop (k + 1), pl := updF (s.refilled k).pl i 2 } := h2.setPl i 2 hip
      simp only at hB2 c2
      have hB2' : w2.cell? ⟨P, 0, none⟩ = some (.slice (some ⟨gb, 0, none⟩) s.pool s.pool) := hB2
      obtain ⟨f5, S5, l5⟩ := h3.lr
      have HJ : Hid _ := join_line _ P 5 gr s.rxn i _ f5 S5 l5 (by
        have e : ({ s.refilled k with fr := s.fr.drop (k + 1), pl := updF (s.refilled k).pl i 2 } : PS).rx.length = s.rx.length + k := by simp [PS.refilled]; omega
        rw [e]; have := HRX.out; omega)
      have H3 : Hid _ := h3
      have K3 : Hid (Ch (fun q => q = P ∨ q = gb ∨ q = gr) w (w2.setCell ⟨gb, i * 3, none⟩ (.int .i64 2))) := ((HK.out.trans (Ch.ofBelow (S := fun _ => False) HB1.out) (fun _ _ e => e.elim)).trans k4 (fun _ _ e => .inl e)).set _ _ (.inr (.inl rfl))
      clear h2 h3 l4 k4 ho4 HL H1 HB1 l5 hB2
      go_wp2_with fail
      refine Calls.mono HJ.out ?_
      rintro e w5 ⟨rfl, ⟨S6, l6⟩, k6, ho6⟩
      have h6 := H3.out.rxSet k6 l6 ho6
      have H6 : Hid (PortAt w5 P gb gf gr gt (s.refilled (k + 1))) := by
        show PortAt _ _ _ _ _ _ _
        rw [← PS.refilled_succ s k hkf]
        have e := HI.out
        subst e
        exact h6
      have K6 : Hid (Ch (fun q => q = P ∨ q = gb ∨ q = gr) w w5) := K3.out.trans k6 (fun _ _ e => e.elim .inl (fun e => .inr (.inr e)))
      have wq : IntKind.i64.wrap ((k : Int) + 1) = (k : Int) + 1 := i64_small _ (by omega) (by omega)
      clear h6 l6 k6 ho6 HJ H3 K3
      go_wp2
      go_roundw
      case rel => exact ⟨k + 1, by omega, by go_num, H6, K6⟩
      case measure => simp [intOf]; omega
    · obtain rfl : k = m := by omega
      have HL : Hid _ := l1
      clear l1 l2
      by_cases g1 : n ≤ (k : Int)
      · have d1 : decide ((k : Int) < n) = false := decide_eq_false (by omega)
        clear hr hcl hrl HF
        go_wp2
        go_ret
        exact ⟨k, HM.out, rfl, HR.out, HK.out⟩
      · have d1 : decide ((k : Int) < n) = true := decide_eq_true (by omega)
        have g1' : (k : Int) < n := by omega
        by_cases g2 : k = s.fr.length
        · have r0 : r = 0 := by omega
          subst r0
          clear hr hcl hrl HF g2
          go_wp2
          go_ret
          first
            | exact ⟨k, HM.out, rfl, HR.out, HK.out⟩
            | (have e := HM.out; rw [← e]; exact ⟨rfl, HR.out, HK.out⟩)
        · have r0 : 0 < r := by omega
          have hfull : k + s.rx.length = s.rxn := by
            rcases HEND.out with e | e | e
            · omega
            · omega
            · exact e
          rw [show (((s.rx.length + k : Nat) : Int) == (s.rxn : Int)) = true from by rw [beq_iff_eq]; omega] at HF
          clear hr hcl hrl g2 hfull
          go_wp2_with fail
          refine Calls.mono HF.out ?_
          rintro e w1 ⟨rfl, hb1⟩
          have H1 : Hid _ := HR.out.below hb1
          have K1 : Hid (Ch (fun q => q = P ∨ q = gb ∨ q = gr) w w1) := HK.out.trans (Ch.ofBelow (S := fun _ => False) hb1) (fun _ _ e => e.elim)
          clear hb1 HF
          go_wp2
          go_ret
          exact ⟨k, HM.out, rfl, H1.out, K1.out⟩
end Go.Proofs.Ythknkfggpdhdbaa
namespace Go.Proofs.Ythknkfggpdhdbaa
open Go.RowKit

theorem Try.sizeLine : (Try.prog.info? 86).map (·.size) = some 3 := by kernel_rfl
set_option maxRecDepth 100000 in
set_option maxHeartbeats 800000 in
theorem newLine_any (w : World) (N : Nat) (hN : N ≤ 100000) :
    Calls Try.prog 40 #[.int .i64 N] w fun e w' => ∃ g, e = .returned (.agg #[.slice (some ⟨g, 0, none⟩) N N, .int .i64 0, .int .i64 0]) ∧
      w'.ownsRow w.heap.size 3 1 (.slice (some ⟨g, 0, none⟩) N N) N (nV (List.replicate N 0)) ∧ Below w.heap.size w w' := by
  obtain ⟨i0, hii, hz0, hz1, hz2⟩ := info_parts Try.infoInt
  go_enter Try.func40, Try.ntmps40
  go_wp2_with (first | (at_make; refine wpList_make_full _ rfl _ _ 69 rfl (w.heap.size + 1) 3 i0 (.int .i64 0) 1 Try.underlying69 hii hz0 hz1 .i64 .i64 _ _ N rfl rfl rfl rfl (by rw [hz2]; omega) (by unfold maxLen; omega) (by simp) ?_))
  intro w1 hown hgr
  rw [toList_madeCells_one] at hown
  obtain ⟨R, hR⟩ : ∃ R, R = w.heap.size := ⟨_, rfl⟩
  have hg1 : w1.heap[R]? = some (.cells #[.slice none 0 0, .int .i64 0, .int .i64 0] 86) := by
    rw [hR, hgr.block w.heap.size (by simp) (by simp)]
    exact heap_alloc_new _ _
  have hb1 : Below w.heap.size w w1 := ((Below.refl _ _).alloc (Nat.le_refl _) _).grown hgr (by simp) (by intro k hk; cases hk)
  rw [← hR]
  have HR : Hid _ := hR
  clear hR hgr
  have f0 : w1.frozen? ⟨R, 0, none⟩ = false := by simp [World.frozen?, hg1]
  have f1 : w1.frozen? ⟨R, 1, none⟩ = false := by simp [World.frozen?, hg1]
  have f2 : w1.frozen? ⟨R, 2, none⟩ = false := by simp [World.frozen?, hg1]
  have c0 : w1.cell? ⟨R, 0, none⟩ = some (.slice none 0 0) := by simp [World.cell?, hg1]
  have c1 : w1.cell? ⟨R, 1, none⟩ = some (.int .i64 0) := by simp [World.cell?, hg1]
  have c2 : w1.cell? ⟨R, 2, none⟩ = some (.int .i64 0) := by simp [World.cell?, hg1]
  have G0 := heap_setCell_same w1 R 0 _ _ (.slice (some ⟨R + 1, 0, none⟩) N N) hg1
  have G1 := heap_setCell_same _ R 1 _ _ (.int .i64 0) G0
  have hg2 := heap_setCell_same _ R 2 _ _ (.int .i64 0) G1
  have k2 : Ch (fun q => q = R) w1 (((w1.setCell ⟨R, 0, none⟩ (.slice (some ⟨R + 1, 0, none⟩) N N)).setCell ⟨R, 1, none⟩ (.int .i64 0)).setCell ⟨R, 2, none⟩ (.int .i64 0)) := (((Ch.refl (fun q => q = R) w1).set ⟨R, 0, none⟩ _ rfl).set ⟨R, 1, none⟩ _ rfl).set ⟨R, 2, none⟩ _ rfl
  have HF : Hid ((((w1.setCell ⟨R, 0, none⟩ (.slice (some ⟨R + 1, 0, none⟩) N N)).setCell ⟨R, 1, none⟩ (.int .i64 0)).setCell ⟨R, 2, none⟩ (.int .i64 0)).ownsRow w.heap.size 3 1 (.slice (some ⟨R + 1, 0, none⟩) N N) N (nV (List.replicate N 0))) := by
    have e := HR.out
    rw [← e] at hown
    have := owns_mono hown (show w.heap.size ≤ R + 1 by omega)
    rw [show nV (List.replicate N 0) = List.replicate N (.int .i64 0) from by simp [nV]]
    exact k2.owns this (fun q hq e => by simp [Value.ownBlock] at hq; omega)
  have HB : Hid (Below w.heap.size w (((w1.setCell ⟨R, 0, none⟩ (.slice (some ⟨R + 1, 0, none⟩) N N)).setCell ⟨R, 1, none⟩ (.int .i64 0)).setCell ⟨R, 2, none⟩ (.int .i64 0))) := hb1.trans (k2.below (fun x e => by have := HR.out; omega) hb1.size)
  have HG : Hid _ := hg2
  clear k2 hown hb1 hg1 G0 G1 hg2
  go_wp2
  (try simp only [Exit.inBlock, Exit.then])
  refine bodyPost_ret (v := .agg #[.slice (some ⟨R + 1, 0, none⟩) N N, .int .i64 0, .int .i64 0]) ?_ rfl ?_
  · exact results_cell_row rfl _ _ R 86 _ _ _ rfl HG.out Try.underlying86 rfl Try.sizeLine
  exact ⟨R + 1, rfl, HF.out, HB.out⟩
end Go.Proofs.Ythknkfggpdhdbaa
