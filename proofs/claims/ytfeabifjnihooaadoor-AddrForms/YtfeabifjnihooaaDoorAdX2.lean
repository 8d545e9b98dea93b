/-
  Layer 4: addr.groups in memory; width, groups.most, reader.between.
-/
import Derived.Test.YtfeabifjnihooaaDoorAdX1
namespace Go.Proofs.YtfeabifjnihooaaDoor
open Go.RowKit Go.Maps

def gsC (X : SX) : Array Value := #[.int .u8 (gb X.g 0 : Nat), .int .u8 (gb X.g 1 : Nat), .int .u8 (gb X.g 2 : Nat), .int .u8 (gb X.g 3 : Nat), .int .u8 (gb X.g 4 : Nat), .int .u8 (gb X.g 5 : Nat), .int .u8 (gb X.g 6 : Nat), .int .u8 (gb X.g 7 : Nat), .int .u8 (gb X.g 8 : Nat), .int .u8 (gb X.g 9 : Nat), .int .u8 (gb X.g 10 : Nat), .int .u8 (gb X.g 11 : Nat), .int .u8 (gb X.g 12 : Nat), .int .u8 (gb X.g 13 : Nat), .int .u8 (gb X.g 14 : Nat), .int .u8 (gb X.g 15 : Nat), .int .i64 (X.g.length : Nat), .bool (decide (0 ≤ X.gap)), .int .i64 (X.gap.toNat : Nat)]
def GsAt (w : World) (G : Nat) (X : SX) : Prop := w.heap[G]? = some (.cells (gsC X) 78 (0, 0))
section
variable {w : World} {G : Nat} {X : SX} (k : GsAt w G X)
include k
theorem GsAt.lt : G < w.heap.size := (Array.getElem?_eq_some_iff.1 k).1
theorem GsAt.cell (i : Nat) : w.cell? ⟨G, i, none⟩ = (gsC X)[i]? := by unfold GsAt at k; simp [World.cell?, k]
theorem GsAt.n : w.cell? ⟨G, 16, none⟩ = some (.int .i64 (X.g.length : Nat)) := k.cell 16
theorem GsAt.b : w.cell? ⟨G, 17, none⟩ = some (.bool (decide (0 ≤ X.gap))) := k.cell 17
theorem GsAt.a : w.cell? ⟨G, 18, none⟩ = some (.int .i64 (X.gap.toNat : Nat)) := k.cell 18
theorem GsAt.fz (j : Nat) : w.frozen? ⟨G, j, none⟩ = false := by unfold GsAt at k; simp [World.frozen?, k]
theorem GsAt.ch {S : Nat → Prop} {w' : World} (c : Ch S w w') (hG : ¬ S G) : GsAt w' G X := (c.block G k.lt hG).trans k
theorem GsAt.below {w' : World} (c : Below w.heap.size w w') : GsAt w' G X := k.ch (Ch.ofBelow (S := fun _ => False) c) (fun h => h)
end
/-- the reader and the groups beside it -/
def RG (w A : World) (R G : Nat) (s : ByteArray) (X : SX) : Prop := RdAt A R s X.p ∧ GsAt A G X ∧ Ch (fun k => k = R ∨ k = G) w A
theorem RG.start {w : World} {R G : Nat} {s : ByteArray} {X : SX} (h1 : RdAt w R s X.p) (h2 : GsAt w G X) : RG w w R G s X := ⟨h1, h2, Ch.refl _ _⟩
theorem RG.no {w A B : World} {R G : Nat} {s : ByteArray} {X : SX} (h : RG w A R G s X) (c : NoCh A B) : RG w B R G s X := ⟨rd_no h.1 c, h.2.1.ch c (fun h => h), h.2.2.trans c (fun _ _ h => h.elim)⟩
theorem RG.rd {w A B : World} {R G : Nat} {s : ByteArray} {X : SX} {q : Nat} (h : RG w A R G s X) (hne : G ≠ R) (c : RdC A B R s q) : RG w B R G s { X with p := q } :=
  ⟨c.1, (c.2.block G h.2.1.lt hne).trans h.2.1, h.2.2.trans c.2 (fun _ _ h => .inl h)⟩
theorem RG.to {w A B : World} {R G : Nat} {s : ByteArray} {X Y : SX} (h : RG w A R G s X) (c : RG A B R G s Y) : RG w B R G s Y := ⟨c.1, c.2.1, h.2.2.trans c.2.2 (fun _ _ h => h)⟩
/-- the :: is set down -/
theorem RG.gap {w A : World} {R G : Nat} {s : ByteArray} {X : SX} (h : RG w A R G s X) (hne : G ≠ R) : RG w ((A.setCell ⟨G, 17, none⟩ (.bool true)).setCell ⟨G, 18, none⟩ (.int .i64 (X.g.length : Nat))) R G s { X with gap := (X.g.length : Nat) } := by
  have c : Ch (fun k => k = G) A ((A.setCell ⟨G, 17, none⟩ (.bool true)).setCell ⟨G, 18, none⟩ (.int .i64 (X.g.length : Nat))) := ((Ch.refl (fun k => k = G) A).set ⟨G, 17, none⟩ _ rfl).set ⟨G, 18, none⟩ _ rfl
  refine ⟨h.1.ch c (fun e => hne e.symm), ?_, h.2.2.trans c (fun _ _ h => .inr h)⟩
  unfold GsAt
  rw [heap_setCell_same _ G 18 _ _ _ (heap_setCell_same A G 17 _ _ _ h.2.1)]
  congr 2
/-- what stands behind a group: the state, whether another follows, an error -/
def btO (s : ByteArray) (X : SX) : SX × Bool × Nat :=
  if X.p == s.size then (X, false, if decide (X.g.length < 8) && !decide (0 ≤ X.gap) then 42 else 0)
  else if twB s X.p then (if decide (0 ≤ X.gap) || X.g.length == 8 then (X, false, 44) else ({ X with gap := (X.g.length : Nat), p := X.p + 2 }, !(X.p + 2 == s.size), 0))
  else if sB s X.p == 58 then ({ X with p := X.p + 1 }, true, 0) else (X, false, 41)
def btV (Y : SX × Bool × Nat) : Value := .tuple #[.bool Y.2.1, .int .i64 (Y.2.2 : Nat)]
set_option maxHeartbeats 1600000 in
set_option maxRecDepth 100000 in
theorem width_any (b : Bool) (w : World) : Calls Tryd.prog 54 #[.bool b] w fun r w' => r = .returned (.int .i64 (if b then 2 else 1)) ∧ w = w' := by

  go_enter Tryd.func54, Tryd.ntmps54
  cases b with
  | true =>
    go_wp2
    go_ret
    exact ⟨rfl, rfl⟩
  | false =>
    go_wp2
    go_ret
    exact ⟨rfl, rfl⟩
set_option maxHeartbeats 1600000 in
set_option maxRecDepth 100000 in
theorem most_any (G : Nat) (X : SX) (w : World) (h : GsAt w G X) : Calls Tryd.prog 55 #[.pointer (some ⟨G, 0, none⟩)] w fun r w' => r = .returned (.int .i64 (rmN X : Nat)) ∧ w = w' := by
  have k17 := h.b
  obtain ⟨b, hb⟩ : ∃ b, decide (0 ≤ X.gap) = b := ⟨_, rfl⟩
  rw [hb] at k17
  have HR : Hid (rmN X = if b then 7 else 8) := by show rmN X = _; unfold rmN; rw [hb]
  clear h hb
  rw [HR.out]
  go_enter Tryd.func55, Tryd.ntmps55
  cases b with
  | true =>
    go_wp2
    go_ret
    exact ⟨rfl, rfl⟩
  | false =>
    go_wp2
    go_ret
    exact ⟨rfl, rfl⟩
set_option maxHeartbeats 1600000 in
set_option maxRecDepth 100000 in
theorem between_any (R G : Nat) (s : ByteArray) (X : SX) (w : World) (h1 : RdAt w R s X.p) (h2 : GsAt w G X) (hne : G ≠ R) (hp : X.p ≤ s.size) (hs : s.size ≤ 1000) (hl : X.g.length ≤ 8) : Calls Tryd.prog 42 #[.pointer (some ⟨R, 0, none⟩), .pointer (some ⟨G, 0, none⟩)] w fun r w' => r = .returned (btV (btO s X)) ∧ RG w w' R G s (btO s X).1 := by
  have H : Hid (RG w w R G s X) := RG.start h1 h2
  have HNE : Hid (G ≠ R) := hne
  have HP : Hid (X.p ≤ s.size ∧ s.size ≤ 1000 ∧ X.g.length ≤ 8) := ⟨hp, hs, hl⟩
  obtain ⟨n, hn⟩ : ∃ n, n = X.g.length := ⟨_, rfl⟩
  obtain ⟨b, hb⟩ : ∃ b, b = decide (0 ≤ X.gap) := ⟨_, rfl⟩
  have HNB : Hid (n = X.g.length ∧ b = decide (0 ≤ X.gap)) := ⟨hn, hb⟩
  obtain ⟨bE, hE⟩ : ∃ bE, (X.p == s.size) = bE := ⟨_, rfl⟩
  have HE : Hid ((X.p == s.size) = bE) := hE
  obtain ⟨bT, hT⟩ : ∃ bT, twB s X.p = bT := ⟨_, rfl⟩
  have HT : Hid (twB s X.p = bT) := hT
  clear h1 h2 hne hp hs hl hn hb hE hT
  go_enter Tryd.func42, Tryd.ntmps42
  go_wp2_with fail
  refine (ended_any R s X.p w H.out.1).mono ?_
  rintro e w1 ⟨rfl, hn⟩
  have H1 : Hid (RG w w1 R G s X) := H.out.no hn
  rw [HE.out]
  clear hn
  cases bE with
  | true =>
    have k16 : w1.cell? ⟨G, 16, none⟩ = some (.int .i64 (n : Nat)) := by rw [HNB.out.1]; exact H1.out.2.1.n
    have k17 : w1.cell? ⟨G, 17, none⟩ = some (.bool b) := by rw [HNB.out.2]; exact H1.out.2.1.b
    by_cases h8 : n < 8
    · have p1 : decide ((n : Int) < 8) = true := decide_eq_true (by omega)
      have p2 : (n : Int) < 8 := by omega
      have HO : Hid (btO s X = (X, false, if b then 0 else 42)) := by
        show _ = _
        unfold btO
        rw [HE.out, if_pos rfl, ← HNB.out.1, ← HNB.out.2, decide_eq_true h8]
        cases b <;> rfl
      clear h8
      cases b with
      | true =>
        go_wp2
        (try simp only [Exit.inBlock, Exit.then])
        refine bodyPost_ret (results_tmp2 rfl _ _ _) rfl ?_
        exact ⟨by rw [HO.out]; rfl, by rw [HO.out]; exact H1.out⟩
      | false =>
        go_wp2
        (try simp only [Exit.inBlock, Exit.then])
        refine bodyPost_ret (results_tmp2 rfl _ _ _) rfl ?_
        exact ⟨by rw [HO.out]; rfl, by rw [HO.out]; exact H1.out⟩
    · have p1 : decide ((n : Int) < 8) = false := decide_eq_false (by omega)
      have p2 : ¬ (n : Int) < 8 := by omega
      have HO : Hid (btO s X = (X, false, 0)) := by
        show _ = _
        unfold btO
        rw [HE.out, if_pos rfl, ← HNB.out.1, decide_eq_false h8]
        rfl
      clear h8
      go_wp2
      (try simp only [Exit.inBlock, Exit.then])
      refine bodyPost_ret (results_tmp2 rfl _ _ _) rfl ?_
      exact ⟨by rw [HO.out]; rfl, by rw [HO.out]; exact H1.out⟩
  | false =>
    go_wp2_with fail
    refine (stands_any R s ⟨#[58, 58]⟩ X.p w1 H1.out.1 HP.out.1).mono ?_
    rintro e w2 ⟨rfl, hn⟩
    have H2 : Hid (RG w w2 R G s X) := H1.out.no hn
    rw [stB_two, HT.out]
    clear hn
    cases bT with
    | true =>
      have k16 : w2.cell? ⟨G, 16, none⟩ = some (.int .i64 (n : Nat)) := by rw [HNB.out.1]; exact H2.out.2.1.n
      have k17 : w2.cell? ⟨G, 17, none⟩ = some (.bool b) := by rw [HNB.out.2]; exact H2.out.2.1.b
      cases b with
      | true =>
        have HO : Hid (btO s X = (X, false, 44)) := by
          show _ = _
          unfold btO
          rw [HE.out, if_neg (by decide), HT.out, if_pos rfl, ← HNB.out.2]
          rfl
        go_wp2
        (try simp only [Exit.inBlock, Exit.then])
        refine bodyPost_ret (results_tmp2 rfl _ _ _) rfl ?_
        exact ⟨by rw [HO.out]; rfl, by rw [HO.out]; exact H2.out⟩
      | false =>
        by_cases h8 : n = 8
        · have p1 : ((n : Int) == 8) = true := by simp; omega
          have HO : Hid (btO s X = (X, false, 44)) := by
            show _ = _
            unfold btO
            rw [HE.out, if_neg (by decide), HT.out, if_pos rfl, ← HNB.out.1, h8, if_pos (by simp)]
          clear h8
          go_wp2
          (try simp only [Exit.inBlock, Exit.then])
          refine bodyPost_ret (results_tmp2 rfl _ _ _) rfl ?_
          exact ⟨by rw [HO.out]; rfl, by rw [HO.out]; exact H2.out⟩
        · have p1 : ((n : Int) == 8) = false := by simp; omega
          have HO : Hid (btO s X = ({ X with gap := (X.g.length : Nat), p := X.p + 2 }, !(X.p + 2 == s.size), 0)) := by
            show _ = _
            unfold btO
            rw [HE.out, if_neg (by decide), HT.out, if_pos rfl, ← HNB.out.1, ← HNB.out.2, if_neg (by simp [h8])]
          clear h8
          go_wp2_with fail
          refine (skip_any R s ⟨#[58, 58]⟩ X.p w2 H2.out.1 HP.out.1 HP.out.2.1 (by decide)).mono ?_
          rintro e w3 ⟨rfl, hrd, hch⟩
          rw [stB_two, HT.out] at hrd
          have H3 : Hid (RG w w3 R G s { X with p := X.p + 2 }) := H2.out.rd HNE.out ⟨hrd, hch⟩
          clear hrd hch k16 k17
          have k16 : w3.cell? ⟨G, 16, none⟩ = some (.int .i64 (n : Nat)) := by rw [HNB.out.1]; exact H3.out.2.1.n
          have k17 : w3.cell? ⟨G, 17, none⟩ = some (.bool false) := by rw [HNB.out.2]; exact H3.out.2.1.b
          have f17 : w3.frozen? ⟨G, 17, none⟩ = false := H3.out.2.1.fz 17
          have k18 : w3.cell? ⟨G, 18, none⟩ = some (.int .i64 (X.gap.toNat : Nat)) := H3.out.2.1.a
          have f18 : w3.frozen? ⟨G, 18, none⟩ = false := H3.out.2.1.fz 18
          obtain ⟨w4, hw4⟩ : ∃ w4, w4 = (w3.setCell ⟨G, 17, none⟩ (.bool true)).setCell ⟨G, 18, none⟩ (.int .i64 (n : Nat)) := ⟨_, rfl⟩
          have H4 : Hid (RG w w4 R G s { X with p := X.p + 2, gap := (X.g.length : Nat) }) := by
            have h := H3.out.gap HNE.out
            show RG _ _ _ _ _ _
            rw [hw4, HNB.out.1]
            exact h
          have HW4 : Hid ((w3.setCell ⟨G, 17, none⟩ (.bool true)).setCell ⟨G, 18, none⟩ (.int .i64 (n : Nat)) = w4) := hw4.symm
          clear hw4
          go_wp2_with fail
          rw [HW4.out]
          refine (ended_any R s (X.p + 2) w4 H4.out.1).mono ?_
          rintro e w5 ⟨rfl, hn⟩
          have H5 : Hid (RG w w5 R G s { X with p := X.p + 2, gap := (X.g.length : Nat) }) := H4.out.no hn
          clear hn k16 k17 f17 k18 f18
          go_wp2
          (try simp only [Exit.inBlock, Exit.then])
          refine bodyPost_ret (results_tmp2 rfl _ _ _) rfl ?_
          exact ⟨by rw [HO.out]; rfl, by rw [HO.out]; exact H5.out⟩
    | false =>
      go_wp2_with fail
      obtain ⟨bC, hC⟩ : ∃ bC, (sB s X.p == 58) = bC := ⟨_, rfl⟩
      have HSK : Hid (stB s X.p ⟨#[58]⟩ = bC) := by
        show _ = _
        have h1 := HE.out
        have h2 := HP.out.1
        simp at h1
        rw [stB_one h2, decide_eq_true (by omega), Bool.true_and]
        exact hC
      have HC : Hid ((sB s X.p == 58) = bC) := hC
      clear hC
      refine (skip_any R s ⟨#[58]⟩ X.p w2 H2.out.1 HP.out.1 HP.out.2.1 (by decide)).mono ?_
      rintro e w3 ⟨rfl, hrd, hch⟩
      rw [HSK.out] at hrd ⊢
      cases bC with
      | true =>
        have H3 : Hid (RG w w3 R G s { X with p := X.p + 1 }) := H2.out.rd HNE.out ⟨hrd, hch⟩
        have HO : Hid (btO s X = ({ X with p := X.p + 1 }, true, 0)) := by
          show _ = _
          unfold btO
          rw [HE.out, if_neg (by decide), HT.out, if_neg (by decide), HC.out, if_pos rfl]
        clear hrd hch
        go_wp2
        (try simp only [Exit.inBlock, Exit.then])
        refine bodyPost_ret (results_tmp2 rfl _ _ _) rfl ?_
        exact ⟨by rw [HO.out]; rfl, by rw [HO.out]; exact H3.out⟩
      | false =>
        have H3 : Hid (RG w w3 R G s { X with p := X.p }) := H2.out.rd HNE.out ⟨hrd, hch⟩
        have HO : Hid (btO s X = (X, false, 41)) := by
          show _ = _
          unfold btO
          rw [HE.out, if_neg (by decide), HT.out, if_neg (by decide), HC.out, if_neg (by decide)]
        clear hrd hch
        go_wp2
        (try simp only [Exit.inBlock, Exit.then])
        refine bodyPost_ret (results_tmp2 rfl _ _ _) rfl ?_
        exact ⟨by rw [HO.out]; rfl, by rw [HO.out]; exact H3.out⟩
end Go.Proofs.YtfeabifjnihooaaDoor
