/-
  The port: how its parts change; memory, window, letGo.
-/
import Derived.Test.YtaicmpkgcppplaaPort
import Derived.Laws.CopyOwn
namespace Go.Proofs.Ytaicmpkgcppplaa
open Go.RowKit

def updF {α : Type} (f : Nat → α) (i : Nat) (x : α) (j : Nat) : α := if j = i then x else f j
theorem updF_same {α : Type} (f : Nat → α) (i : Nat) (x : α) : updF f i x i = x := if_pos rfl
theorem updF_other {α : Type} (f : Nat → α) (i : Nat) (x : α) {j : Nat} (h : j ≠ i) : updF f i x j = f j := if_neg h
theorem updF_id {α : Type} (f : Nat → α) (i : Nat) : updF f i (f i) = f := by
  funext j; unfold updF; split
  · rename_i e; rw [e]
  · rfl
variable {w w' : World} {P gb gf gr gt : Nat} {s : PS}
theorem PortAt.Pl (h : PortAt w P gb gf gr gt s) : P < w.heap.size := World.block_lt_of_cell? w ⟨P, 0, none⟩ h.cB
theorem PortAt.bl (h : PortAt w P gb gf gr gt s) : gb < w.heap.size := World.block_lt_of_cell? w ⟨gb, 0 * 3, none⟩ (h.b0 0 (by have := h.p1; omega))
/-- nothing but the block gb changed: the rest stands -/
theorem PortAt.gbOnly (h : PortAt w P gb gf gr gt s) (k : Ch (fun q => q = gb) w w') (pl' ln' : Nat → Nat) (bb' : Nat → Option Nat)
    (c0 : ∀ i, i < s.pool → w'.cell? ⟨gb, i * 3, none⟩ = some (.int .i64 (pl' i))) (c1 : ∀ i, i < s.pool → w'.cell? ⟨gb, i * 3 + 1, none⟩ = some (.int .i64 (ln' i))) (c2 : ∀ i, i < s.pool → w'.cell? ⟨gb, i * 3 + 2, none⟩ = some (PS.bv { s with bb := bb' } i)) (cz : ∀ j, w'.frozen? ⟨gb, j, none⟩ = false)
    (hrow : ∀ i b, i < s.pool → bb' i = some b → w'.ownsRow 0 5 1 (.slice (some ⟨b, 0, none⟩) s.size s.size) s.size ((toI (s.da i)).map (Value.int .u8))) (hnil : ∀ i, i < s.pool → bb' i = none → s.da i = List.replicate s.size 0)
    (hn1 : ∀ i b, i < s.pool → bb' i = some b → b ≠ P ∧ b ≠ gb ∧ b ≠ gf ∧ b ≠ gr ∧ b ≠ gt) (hn2 : ∀ i j b, i < s.pool → j < s.pool → i ≠ j → bb' i = some b → bb' j ≠ some b) :
    PortAt w' P gb gf gr gt { s with pl := pl', ln := ln', bb := bb' } := by
  obtain ⟨f1, S1, l1⟩ := h.lf
  obtain ⟨f2, S2, l2⟩ := h.lr
  obtain ⟨f3, S3, l3⟩ := h.lt
  exact ⟨k.cell h.cB h.nPb, k.cell h.cS h.nPb, k.cell h.cF h.nPb, fun j => (k.frozen (p := ⟨P, j, none⟩) h.Pl h.nPb).trans (h.fz j), ⟨f1, S1, l1.ch k h.nPb (fun e => h.nbf e.symm)⟩, ⟨f2, S2, l2.ch k h.nPb (fun e => h.nbr e.symm)⟩, ⟨f3, S3, l3.ch k h.nPb (fun e => h.nbt e.symm)⟩, c0, c1, c2, cz, hrow, hnil, h.dl, h.d256, h.sz1, h.sz2, h.p1, h.p2, h.nPb, h.nbf, h.nbr, h.nbt, h.nfr, h.nft, h.nrt, hn1, hn2⟩
theorem gb_other (w : World) (gb j i : Nat) (v : Value) (h : i ≠ j) : (w.setCell ⟨gb, j, none⟩ v).cell? ⟨gb, i, none⟩ = w.cell? ⟨gb, i, none⟩ := World.cell?_setCell_other _ _ _ _ (by simp only [ne_eq, Addr.mk.injEq, true_and, and_true]; exact fun e => h e.symm)
/-- a buffer's place is another -/
theorem PortAt.setPl (h : PortAt w P gb gf gr gt s) (i v : Nat) (hi : i < s.pool) : PortAt (w.setCell ⟨gb, i * 3, none⟩ (.int .i64 (v : Int))) P gb gf gr gt { s with pl := updF s.pl i v } := by
  have k : Ch (fun q => q = gb) w (w.setCell ⟨gb, i * 3, none⟩ (.int .i64 (v : Int))) := (Ch.refl _ w).set _ _ rfl
  refine h.gbOnly k _ s.ln s.bb (fun j hj => ?_) (fun j hj => ?_) (fun j hj => ?_) (fun j => ?_) (fun j b hj hb => k.owns (h.row j b hj hb) (fun q hq e => (h.nrow j b hj hb).2.1 (by simp [Value.ownBlock] at hq; omega))) h.nil h.nrow h.nrr
  · by_cases e : j = i
    · subst e; rw [updF_same]; exact World.cell?_setCell_same _ _ _ (h.b0 j hj)
    · rw [updF_other _ _ _ e, gb_other _ _ _ _ _ (by omega)]; exact h.b0 j hj
  · rw [gb_other _ _ _ _ _ (by omega)]; exact h.b1 j hj
  · rw [gb_other _ _ _ _ _ (by omega)]; exact h.b2 j hj
  · rw [World.frozen?_setCell]; exact h.bz j
theorem PortAt.setLn (h : PortAt w P gb gf gr gt s) (i v : Nat) (hi : i < s.pool) : PortAt (w.setCell ⟨gb, i * 3 + 1, none⟩ (.int .i64 (v : Int))) P gb gf gr gt { s with ln := updF s.ln i v } := by
  have k : Ch (fun q => q = gb) w (w.setCell ⟨gb, i * 3 + 1, none⟩ (.int .i64 (v : Int))) := (Ch.refl _ w).set _ _ rfl
  refine h.gbOnly k s.pl _ s.bb (fun j hj => ?_) (fun j hj => ?_) (fun j hj => ?_) (fun j => ?_) (fun j b hj hb => k.owns (h.row j b hj hb) (fun q hq e => (h.nrow j b hj hb).2.1 (by simp [Value.ownBlock] at hq; omega))) h.nil h.nrow h.nrr
  · rw [gb_other _ _ _ _ _ (by omega)]; exact h.b0 j hj
  · by_cases e : j = i
    · subst e; rw [updF_same]; exact World.cell?_setCell_same _ _ _ (h.b1 j hj)
    · rw [updF_other _ _ _ e, gb_other _ _ _ _ _ (by omega)]; exact h.b1 j hj
  · rw [gb_other _ _ _ _ _ (by omega)]; exact h.b2 j hj
  · rw [World.frozen?_setCell]; exact h.bz j
/-- a buffer's memory is made -/
theorem PortAt.made (h : PortAt w P gb gf gr gt s) (i b : Nat) (hi : i < s.pool) (hn : s.bb i = none) {w1 : World} (hg : w.grownBy w1 none) (hb : w.heap.size ≤ b) (hrow : w1.ownsRow 0 5 1 (.slice (some ⟨b, 0, none⟩) s.size s.size) s.size ((toI (List.replicate s.size 0)).map (Value.int .u8))) :
    PortAt (w1.setCell ⟨gb, i * 3 + 2, none⟩ (.slice (some ⟨b, 0, none⟩) s.size s.size)) P gb gf gr gt { s with bb := updF s.bb i (some b) } := by
  have k1 := Ch.ofGrown hg
  have h1 := h.ch k1 (fun q _ e => by cases e)
  have hbl := h.bl
  have hlt : ∀ j c, j < s.pool → s.bb j = some c → c < w.heap.size := fun j c hj hc => ((h.row j c hj hc).lt c rfl).2
  have k : Ch (fun q => q = gb) w1 (w1.setCell ⟨gb, i * 3 + 2, none⟩ (.slice (some ⟨b, 0, none⟩) s.size s.size)) := (Ch.refl _ w1).set _ _ rfl
  have hPl := h.Pl
  obtain ⟨_, _, l1⟩ := h.lf
  obtain ⟨_, _, l2⟩ := h.lr
  obtain ⟨_, _, l3⟩ := h.lt
  have q1 := (l1.row.lt gf rfl).2
  have q2 := (l2.row.lt gr rfl).2
  have q3 := (l3.row.lt gt rfl).2
  refine h1.gbOnly k s.pl s.ln _ (fun j hj => ?_) (fun j hj => ?_) (fun j hj => ?_) (fun j => ?_) (fun j c hj hc => ?_) (fun j hj hc => ?_) (fun j c hj hc => ?_) (fun j l c hj hl hne hc hc' => ?_)
  · rw [gb_other _ _ _ _ _ (by omega)]; exact h1.b0 j hj
  · rw [gb_other _ _ _ _ _ (by omega)]; exact h1.b1 j hj
  · by_cases e : j = i
    · subst e
      rw [World.cell?_setCell_same _ _ _ (h1.b2 j hj)]
      simp [PS.bv, updF_same]
    · rw [gb_other _ _ _ _ _ (by omega), h1.b2 j hj]
      simp [PS.bv, updF_other _ _ _ e]
  · rw [World.frozen?_setCell]; exact h1.bz j
  · by_cases e : j = i
    · subst e
      rw [updF_same] at hc
      simp only [Option.some.injEq] at hc
      subst hc
      rw [h.nil j hj hn]
      exact k.owns hrow (fun q hq e => by simp [Value.ownBlock] at hq; omega)
    · rw [updF_other _ _ _ e] at hc
      exact k.owns (h1.row j c hj hc) (fun q hq e' => (h.nrow j c hj hc).2.1 (by simp [Value.ownBlock] at hq; omega))
  · by_cases e : j = i
    · subst e; rw [updF_same] at hc; cases hc
    · rw [updF_other _ _ _ e] at hc; exact h.nil j hj hc
  · by_cases e : j = i
    · subst e
      rw [updF_same] at hc
      simp only [Option.some.injEq] at hc
      subst hc
      refine ⟨by omega, by omega, by omega, by omega, by omega⟩
    · rw [updF_other _ _ _ e] at hc; exact h.nrow j c hj hc
  · by_cases e : j = i
    · subst e
      rw [updF_same] at hc
      simp only [Option.some.injEq] at hc
      subst hc
      rw [updF_other _ _ _ (fun e' => hne e'.symm)] at hc'
      have := hlt l b hl hc'; omega
    · rw [updF_other _ _ _ e] at hc
      by_cases e2 : l = i
      · subst e2
        rw [updF_same] at hc'
        simp only [Option.some.injEq] at hc'
        subst hc'
        have := hlt j b hj hc; omega
      · rw [updF_other _ _ _ e2] at hc'
        exact h.nrr j l c hj hl hne hc hc'

/-- the port behind a call that may have made buffer i's memory: the block b -/
def Mem1 (w : World) (P gb gf gr gt : Nat) (s : PS) (i b : Nat) (w' : World) : Prop :=
  PortAt w' P gb gf gr gt { s with bb := updF s.bb i (some b) } ∧ Ch (fun q => q = gb) w w' ∧ (s.bb i = some b ∨ (s.bb i = none ∧ w.heap.size ≤ b))
theorem toList_made (n : Nat) : (toI (List.replicate n 0)).map (Value.int .u8) = List.replicate n (.int .u8 0) := by simp [toI]
theorem equalIn_slice_nil {P : Program} (w : World) (d : Nat) (t e : TypeId) (a : Option Addr) (l c : Nat) (h : P.underlying t = some (.slice e)) : (Op.equalIn (d + 1) t (.slice a l c) (.slice none 0 0)).run P w = .ok a.isNone w := by
  cases a <;> simp [Op.equalIn, run_underlying h]
theorem run_eql_slice_nil (w : World) (a : Option Addr) (l c : Nat) : (binOp .eql 30 (.slice a l c) (.slice none 0 0)).run Try.prog w = .ok (.bool a.isNone) w := by
  simp only [binOp]
  have e : ∀ w, (Op.equal 30 (.slice a l c) (.slice none 0 0)).run Try.prog w = .ok a.isNone w := fun w => equalIn_slice_nil w 9999 _ _ a l c Try.underlying30
  simp [e]
@[go_sem] theorem run_eql_nil_nil (w : World) : (binOp .eql 30 (.slice none 0 0) (.slice none 0 0)).run Try.prog w = .ok (.bool true) w := run_eql_slice_nil w none 0 0
@[go_sem] theorem run_eql_some_nil (w : World) (a : Addr) (l c : Nat) : (binOp .eql 30 (.slice (some a) l c) (.slice none 0 0)).run Try.prog w = .ok (.bool false) w := run_eql_slice_nil w (some a) l c
set_option maxRecDepth 100000 in
set_option maxHeartbeats 800000 in
theorem memory_any (w : World) (P gb gf gr gt : Nat) (s : PS) (h : PortAt w P gb gf gr gt s) (i : Nat) (hi : i < s.pool) :
    Calls Try.prog 34 #[.pointer (some ⟨P, 0, none⟩), .int .i64 i] w fun e w' => ∃ b, e = .returned (.slice (some ⟨b, 0, none⟩) s.size s.size) ∧ Mem1 w P gb gf gr gt s i b w' := by
  obtain ⟨i0, hii, hz0, hz1, hz2⟩ := info_parts Try.infoByte
  have hB := h.cB
  have hS := h.cS
  have h2 := h.b2 i hi
  have hp2 := h.p2
  have hs2 := h.sz2
  cases hb : s.bb i with
  | some b =>
    rw [PS.bv, hb] at h2
    simp only at h2
    have HF : Hid (Mem1 w P gb gf gr gt s i b w) := ⟨by rw [show updF s.bb i (some b) = s.bb from by rw [← hb]; exact updF_id _ _]; exact h, Ch.refl _ _, .inl hb⟩
    clear hb h
    go_enter Try.func34, Try.ntmps34
    go_wp2
    go_ret
    exact ⟨b, rfl, HF.out⟩
  | none =>
    rw [PS.bv, hb] at h2
    simp only at h2
    have HB : Hid (s.bb i = none) := hb
    have hgl := h.bl
    have hPl := h.Pl
    have hfz := h.bz (i * 3 + 2)
    obtain ⟨sz, hsz⟩ : ∃ sz, sz = s.size := ⟨_, rfl⟩
    rw [← hsz] at hS hs2
    have HSZ : Hid (s.size = sz) := hsz.symm
    clear hb hsz
    go_enter Try.func34, Try.ntmps34
    go_wp2_with (first | (at_make; refine wpList_make_full _ rfl _ _ 30 rfl w.heap.size 5 i0 (.int .u8 0) 1 Try.underlying30 hii hz0 hz1 .i64 .i64 _ _ sz rfl rfl rfl rfl (by rw [hz2]; omega) (by unfold maxLen; omega) (Nat.le_refl _) ?_))
    intro w1 hown hgr
    rw [toList_madeCells_one] at hown
    have c1 : w1.cell? ⟨gb, i * 3 + 2, none⟩ = some (.slice none 0 0) := hgr.cell h2 (by simp)
    have f1 : w1.frozen? ⟨gb, i * 3 + 2, none⟩ = false := by rw [World.frozen?_of_block (hgr.block gb hgl (by simp))]; exact hfz
    have hfin := h.made i w.heap.size hi HB.out hgr (Nat.le_refl _) (by rw [toList_made, HSZ.out]; exact owns_mono hown (Nat.zero_le _))
    have HF : Hid (Mem1 w P gb gf gr gt s i w.heap.size (w1.setCell ⟨gb, i * 3 + 2, none⟩ (.slice (some ⟨w.heap.size, 0, none⟩) sz sz))) := ⟨by have e := HSZ.out; rw [← e]; exact hfin, ((Ch.ofGrown hgr).mono (fun _ _ e => by cases e)).set _ _ rfl, .inr ⟨HB.out, Nat.le_refl _⟩⟩
    have e1 : (w1.setCell ⟨gb, i * 3 + 2, none⟩ (.slice (some ⟨w.heap.size, 0, none⟩) sz sz)).cell? ⟨gb, i * 3 + 2, none⟩ = some (.slice (some ⟨w.heap.size, 0, none⟩) sz sz) := World.cell?_setCell_same _ _ _ c1
    clear hfin hown hgr h
    go_wp2
    go_ret
    exact ⟨w.heap.size, by rw [HSZ.out]; rfl, HF.out⟩
end Go.Proofs.Ytaicmpkgcppplaa
