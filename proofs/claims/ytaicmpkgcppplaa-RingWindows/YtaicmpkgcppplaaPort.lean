/-
  Package ring's port in memory; its small calls: within, held, memory, window.
-/
import Derived.Test.YtaicmpkgcppplaaLine
namespace Go.Proofs.Ytaicmpkgcppplaa
open Go.RowKit

/-- what a port is -/
structure PS where
  size : Nat
  rxn : Nat
  txn : Nat
  pool : Nat
  filled : Nat
  pl : Nat → Nat
  ln : Nat → Nat
  bb : Nat → Option Nat
  da : Nat → List Nat
  fr : List Nat
  rx : List Nat
  tx : List Nat
/-- a buffer's bytes, as its cell holds them -/
def PS.bv (s : PS) (i : Nat) : Value := match s.bb i with | none => .slice none 0 0 | some b => .slice (some ⟨b, 0, none⟩) s.size s.size
structure PortAt (w : World) (P gb gf gr gt : Nat) (s : PS) : Prop where
  cB : w.cell? ⟨P, 0, none⟩ = some (.slice (some ⟨gb, 0, none⟩) s.pool s.pool)
  cS : w.cell? ⟨P, 1, none⟩ = some (.int .i64 s.size)
  cF : w.cell? ⟨P, 8, none⟩ = some (.int .i64 s.filled)
  fz : ∀ j, w.frozen? ⟨P, j, none⟩ = false
  lf : ∃ f S, LineAt w P 2 gf s.pool s.fr f S
  lr : ∃ f S, LineAt w P 5 gr s.rxn s.rx f S
  lt : ∃ f S, LineAt w P 9 gt s.txn s.tx f S
  b0 : ∀ i, i < s.pool → w.cell? ⟨gb, i * 3, none⟩ = some (.int .i64 (s.pl i))
  b1 : ∀ i, i < s.pool → w.cell? ⟨gb, i * 3 + 1, none⟩ = some (.int .i64 (s.ln i))
  b2 : ∀ i, i < s.pool → w.cell? ⟨gb, i * 3 + 2, none⟩ = some (s.bv i)
  bz : ∀ j, w.frozen? ⟨gb, j, none⟩ = false
  row : ∀ i b, i < s.pool → s.bb i = some b → w.ownsRow 0 5 1 (.slice (some ⟨b, 0, none⟩) s.size s.size) s.size ((toI (s.da i)).map (Value.int .u8))
  nil : ∀ i, i < s.pool → s.bb i = none → s.da i = List.replicate s.size 0
  dl : ∀ i, i < s.pool → (s.da i).length = s.size
  d256 : ∀ i, i < s.pool → ∀ x ∈ s.da i, x < 256
  sz1 : 64 ≤ s.size
  sz2 : s.size ≤ 65535
  p1 : 1 ≤ s.pool
  p2 : s.pool ≤ 8192
  nPb : P ≠ gb
  nbf : gb ≠ gf
  nbr : gb ≠ gr
  nbt : gb ≠ gt
  nfr : gf ≠ gr
  nft : gf ≠ gt
  nrt : gr ≠ gt
  nrow : ∀ i b, i < s.pool → s.bb i = some b → b ≠ P ∧ b ≠ gb ∧ b ≠ gf ∧ b ≠ gr ∧ b ≠ gt
  nrr : ∀ i j b, i < s.pool → j < s.pool → i ≠ j → s.bb i = some b → s.bb j ≠ some b
/-- its blocks -/
def PB (P gb gf gr gt : Nat) (s : PS) (q : Nat) : Prop := q = P ∨ q = gb ∨ q = gf ∨ q = gr ∨ q = gt ∨ ∃ i, i < s.pool ∧ s.bb i = some q
theorem PortAt.ch {T : Nat → Prop} {w w' : World} {P gb gf gr gt : Nat} {s : PS} (h : PortAt w P gb gf gr gt s) (k : Ch T w w') (hT : ∀ q, PB P gb gf gr gt s q → ¬ T q) : PortAt w' P gb gf gr gt s := by
  have tP := hT P (.inl rfl)
  have tb := hT gb (.inr (.inl rfl))
  have tf := hT gf (.inr (.inr (.inl rfl)))
  have tr := hT gr (.inr (.inr (.inr (.inl rfl))))
  have tt := hT gt (.inr (.inr (.inr (.inr (.inl rfl)))))
  obtain ⟨f1, S1, l1⟩ := h.lf
  obtain ⟨f2, S2, l2⟩ := h.lr
  obtain ⟨f3, S3, l3⟩ := h.lt
  have hpos := h.p1
  have hbl : gb < w.heap.size := World.block_lt_of_cell? w ⟨gb, 0 * 3, none⟩ (h.b0 0 (by omega))
  exact ⟨k.cell h.cB tP, k.cell h.cS tP, k.cell h.cF tP, fun j => (k.frozen (p := ⟨P, j, none⟩) (show P < w.heap.size from World.block_lt_of_cell? w ⟨P, 0, none⟩ h.cB) tP).trans (h.fz j), ⟨f1, S1, l1.ch k tP tf⟩, ⟨f2, S2, l2.ch k tP tr⟩, ⟨f3, S3, l3.ch k tP tt⟩,
    fun i hi => k.cell (h.b0 i hi) tb, fun i hi => k.cell (h.b1 i hi) tb, fun i hi => k.cell (h.b2 i hi) tb, fun j => (k.frozen (p := ⟨gb, j, none⟩) hbl tb).trans (h.bz j),
    fun i b hi hb => k.owns (h.row i b hi hb) (fun q hq e => hT q (.inr (.inr (.inr (.inr (.inr ⟨i, hi, by rw [hb]; simpa [Value.ownBlock] using hq⟩))))) e), h.nil, h.dl, h.d256, h.sz1, h.sz2, h.p1, h.p2, h.nPb, h.nbf, h.nbr, h.nbt, h.nfr, h.nft, h.nrt, h.nrow, h.nrr⟩
theorem PortAt.below {w w' : World} {P gb gf gr gt : Nat} {s : PS} (h : PortAt w P gb gf gr gt s) (k : Below w.heap.size w w') : PortAt w' P gb gf gr gt s := h.ch (Ch.ofBelow (S := fun _ => False) k) (fun _ _ => id)

set_option maxHeartbeats 400000 in
theorem within_any (v lo hi : Int) (w : World) : Calls Try.prog 36 #[.int .i64 v, .int .i64 lo, .int .i64 hi] w fun e w' => e = .returned (.bool (decide (lo ≤ v ∧ v ≤ hi))) ∧ w = w' := by
  by_cases h1 : lo ≤ v
  · by_cases h2 : v ≤ hi
    · rw [decide_eq_true ⟨h1, h2⟩]
      go_enter Try.func36, Try.ntmps36
      go_wp2
      go_ret
      exact ⟨by simp, rfl⟩
    · have hd : decide (v ≤ hi) = false := decide_eq_false h2
      rw [decide_eq_false (fun h => h2 h.2)]
      go_enter Try.func36, Try.ntmps36
      go_wp2
      go_ret
      exact ⟨by simp, rfl⟩
  · have hd : decide (lo ≤ v) = false := decide_eq_false h1
    rw [decide_eq_false (fun h => h1 h.1)]
    go_enter Try.func36, Try.ntmps36
    go_wp2
    go_ret
    exact ⟨by simp, rfl⟩
/-- what held answers -/
def hE (s : PS) (i : Int) : Int := if i < 0 ∨ (s.pool : Int) - 1 < i then 1 else if s.pl i.toNat = 4 then 0 else 34
set_option maxHeartbeats 400000 in
theorem held_any (w : World) (P gb gf gr gt : Nat) (s : PS) (h : PortAt w P gb gf gr gt s) (i : Int) :
    Calls Try.prog 37 #[.pointer (some ⟨P, 0, none⟩), .int .i64 i] w fun e w' => e = .returned (.int .i64 (hE s i)) ∧ w = w' := by
  have hB := h.cB
  have hp1 := h.p1
  have hp2 := h.p2
  by_cases hr : i < 0 ∨ (s.pool : Int) - 1 < i
  · have e : hE s i = 1 := if_pos hr
    rw [e]
    have hd : decide (0 ≤ i ∧ i ≤ (s.pool : Int) - 1) = false := decide_eq_false (by omega)
    have HW : Hid _ := within_any i 0 ((s.pool : Int) - 1) w
    rw [hd] at HW
    clear hr hd e
    go_enter Try.func37, Try.ntmps37
    go_wp2_with fail
    refine Calls.mono HW.out ?_
    rintro e w' ⟨rfl, rfl⟩
    go_wp2
    go_ret
    exact ⟨rfl, rfl⟩
  · obtain ⟨k, rfl⟩ : ∃ k : Nat, i = (k : Int) := ⟨i.toNat, by omega⟩
    have hk : k < s.pool := by omega
    have hd : decide ((0 : Int) ≤ (k : Int) ∧ (k : Int) ≤ (s.pool : Int) - 1) = true := decide_eq_true (by omega)
    have HW : Hid _ := within_any (k : Int) 0 ((s.pool : Int) - 1) w
    rw [hd] at HW
    have e : hE s (k : Int) = if s.pl k = 4 then 0 else 34 := by unfold hE; rw [if_neg hr, Int.toNat_natCast]
    rw [e]
    have hc := h.b0 k hk
    obtain ⟨x, hx⟩ : ∃ x, x = s.pl k := ⟨_, rfl⟩
    rw [← hx] at hc ⊢
    clear hd hr hx e
    by_cases h4 : x = 4
    · have hb : ((x : Int) != 4) = false := by rw [h4]; rfl
      rw [if_pos h4]
      clear h4
      go_enter Try.func37, Try.ntmps37
      go_wp2_with fail
      refine Calls.mono HW.out ?_
      rintro e w' ⟨rfl, rfl⟩
      go_wp2
      go_ret
      exact ⟨rfl, rfl⟩
    · have hb : ((x : Int) != 4) = true := by rw [bne_iff_ne]; omega
      rw [if_neg h4]
      clear h4
      go_enter Try.func37, Try.ntmps37
      go_wp2_with fail
      refine Calls.mono HW.out ?_
      rintro e w' ⟨rfl, rfl⟩
      go_wp2
      go_ret
      exact ⟨rfl, rfl⟩
end Go.Proofs.Ytaicmpkgcppplaa
