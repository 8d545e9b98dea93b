/-
  Layer 4: an address of version 6 read, texts with a tail of version 4 among them: in numbers.
-/
/-
  Layer 4: addr.groups in memory; width, groups.most, reader.between.
-/
/-
  Layer 4: one group read, case by case; the groups' cells behind it.
-/
/-
  Layer 4: reader.group.
-/
/-
  Layer 4: where the groups of an address of version 6 come to lie.
-/
/-
  Layer 4: groups.address.
-/
/-
  Layer 4: an address of version 6 read, round by round, in numbers.
-/
/-
  Layer 4: reader.six.
-/
/-
  Layer 4: addr.ParseIP of any text.
-/
import Derived.Test.YteldiggaooeeeaaGreatDoorAdU
import Derived.Test.YteldiggaooeeeaaGreatDoorMixJ
import Derived.Laws.CopyOwn
namespace Go.Proofs.YteldiggaooeeeaaGreatDoor
open Go.RowKit

theorem dtd_at {s : ByteArray} {m p : Nat} {l : List Nat} (h : dtd s m p [] = .inl l) (i : Nat) : l.getD i 0 < 256 := by
  obtain ⟨t, e1, _, e3⟩ := dtd_ok m p [] h
  rw [e1, List.nil_append, List.getD_eq_getElem?_getD]
  cases hi : t[i]? with
  | none => decide
  | some v => exact e3 v (List.mem_of_getElem? hi)
theorem grp_ok' {s : ByteArray} {X : SX} (h : SxOk s X) : SxOk s (grp s X).1 := by
  have k2 := scn_le s hxB (s.size - X.p) X.p h.p
  have hr := rmN_le X
  unfold grp grpq
  obtain ⟨q, hq⟩ : ∃ q, q = scP s hxB X.p := ⟨_, rfl⟩
  have hq2 : q ≤ s.size := by rw [hq]; exact k2
  rw [← hq]
  by_cases c1 : q = X.p
  · rw [if_pos (by simp [c1])]; exact h.fail _ _
  rw [if_neg (by simp [c1])]
  by_cases c2 : rmN X < X.g.length + (if tlB s X q then 2 else 1)
  · rw [if_pos (by simp only [decide_eq_true_eq]; exact c2)]; exact h.fail _ _
  rw [if_neg (by simp only [decide_eq_true_eq]; exact c2)]
  cases ht : tlB s X q with
  | true =>
    rw [ht] at c2
    simp only [if_true] at c2 ⊢
    cases hd : dtd s 4 X.p [] with
    | inr e => exact h.fail _ _
    | inl l =>
      refine ⟨Nat.le_refl _, by simp; omega, fun n hn => ?_⟩
      have a0 := dtd_at hd 0
      have a1 := dtd_at hd 1
      have a2 := dtd_at hd 2
      have a3 := dtd_at hd 3
      have hn' : n ∈ X.g ∨ n = 256 * l.getD 0 0 + l.getD 1 0 ∨ n = 256 * l.getD 2 0 + l.getD 3 0 := by
        have := List.mem_append.1 hn
        simpa using this
      rcases hn' with hn | rfl | rfl
      · exact h.b n hn
      · omega
      · omega
  | false =>
    rw [ht] at c2
    simp only [Bool.false_eq_true, if_false] at c2 ⊢
    by_cases c4 : 4 < q - X.p
    · rw [if_pos (by simp only [decide_eq_true_eq]; exact c4)]; exact h.fail _ _
    rw [if_neg (by simp only [decide_eq_true_eq]; exact c4)]
    refine ⟨hq2, by simp; omega, fun n hn => ?_⟩
    simp at hn
    rcases hn with hn | rfl
    · exact h.b n hn
    · exact hxN_small (by omega)
theorem grp_go' {s : ByteArray} {X : SX} (h : SxOk s X) (hg : (grp s X).2 = false) : X.p < (grp s X).1.p ∧ (grp s X).1.p < s.size ∧ 0 < (grp s X).1.g.length := by
  have k1 := scn_ge s hxB (s.size - X.p) X.p
  have k2 := scn_le s hxB (s.size - X.p) X.p h.p
  unfold grp grpq at hg ⊢
  obtain ⟨q, hq⟩ : ∃ q, q = scP s hxB X.p := ⟨_, rfl⟩
  have hq1 : X.p ≤ q := by rw [hq]; exact k1
  have hq2 : q ≤ s.size := by rw [hq]; exact k2
  rw [← hq] at hg ⊢
  by_cases c1 : q = X.p
  · rw [if_pos (by simp [c1])] at hg; cases hg
  rw [if_neg (by simp [c1])] at hg ⊢
  by_cases c2 : rmN X < X.g.length + (if tlB s X q then 2 else 1)
  · rw [if_pos (by simp only [decide_eq_true_eq]; exact c2)] at hg; cases hg
  rw [if_neg (by simp only [decide_eq_true_eq]; exact c2)] at hg ⊢
  cases ht : tlB s X q with
  | true =>
    rw [ht] at hg
    simp only [if_true] at hg
    cases hd : dtd s 4 X.p [] with
    | inr e => rw [hd] at hg; cases hg
    | inl l => rw [hd] at hg; cases hg
  | false =>
    rw [ht] at hg
    simp only [Bool.false_eq_true, if_false] at hg ⊢
    by_cases c4 : 4 < q - X.p
    · rw [if_pos (by simp only [decide_eq_true_eq]; exact c4)] at hg; cases hg
    rw [if_neg (by simp only [decide_eq_true_eq]; exact c4)] at hg ⊢
    have hg' : (q == s.size) = false := hg
    simp at hg'
    refine ⟨?_, ?_, ?_⟩
    · show X.p < q; omega
    · show q < s.size; omega
    · show 0 < (X.g ++ [_]).length; simp
theorem rnd_ok' {s : ByteArray} {X : SX} (h : SxOk s X) : SxOk s (rnd s X).1 := by
  unfold rnd
  split
  · rename_i h1
    simp at h1
    exact btw_ok (grp_ok' h) (grp_go' h h1.1).2.1
  · exact grp_ok' h
theorem rnd_less' {s : ByteArray} {X : SX} (h : SxOk s X) : mZ s (rnd s X) < s.size + 1 - X.p := by
  have hp := h.p
  unfold rnd
  split
  · rename_i h1
    simp at h1
    obtain ⟨k1, k2, _⟩ := grp_go' h h1.1
    unfold mZ
    split
    · rename_i h2
      simp at h2
      rcases btw_go (s := s) h1.2 with k3 | k3
      · exact absurd h2.2 k3
      · omega
    · omega
  · rename_i h1
    unfold mZ
    rw [if_neg h1]
    omega
/-- at a group's head the place is past the text's beginning just where something stands ahead -/
def SxHd (X : SX) : Prop := 0 < X.p ↔ (0 < X.g.length ∨ 0 ≤ X.gap)
theorem sx0_hd (s : ByteArray) : SxHd (sx0 s).1 := by
  unfold sx0 SxHd
  split
  · simp
  · simp
theorem btw_hd {s : ByteArray} {X : SX} (hl : 0 < X.g.length) (he : X.er = 0) (h : (btw s X).1.er = 0) : SxHd (btw s X).1 := by
  unfold btw at h ⊢
  unfold SxHd
  split
  · rename_i h1
    rw [if_pos h1] at h
    split
    · rename_i h2
      rw [if_pos h2, SX.fail_er he] at h
      exact absurd h (by decide)
    · exact ⟨fun _ => .inl hl, fun _ => by show 0 < X.p + 2; omega⟩
  · rename_i h1
    rw [if_neg h1] at h
    split
    · exact ⟨fun _ => .inl hl, fun _ => by show 0 < X.p + 1; omega⟩
    · rename_i h2
      rw [if_neg h2, SX.fail_er he] at h
      exact absurd h (by decide)
theorem rnd_hd {s : ByteArray} {X : SX} (h : SxOk s X) (hd : (rnd s X).2 = false) (he : (rnd s X).1.er = 0) : SxHd (rnd s X).1 := by
  unfold rnd at hd he ⊢
  split
  · rename_i h1
    rw [if_pos h1] at he
    simp at h1
    exact btw_hd (grp_go' h h1.1).2.2 h1.2 he
  · rename_i h1
    rw [if_neg h1] at hd he
    exact absurd (by rw [hd, he]; rfl) h1
/-- a group's two bytes -/
def gb (g : List Nat) (i : Nat) : Nat := if i % 2 = 0 then g.getD (i / 2) 0 / 256 else g.getD (i / 2) 0 % 256
theorem gb_lt {g : List Nat} (h : ∀ n ∈ g, n < 65536) (i : Nat) : gb g i < 256 := by
  have k : g.getD (i / 2) 0 < 65536 := by
    rw [List.getD_eq_getElem?_getD]
    cases hi : g[i / 2]? with
    | none => decide
    | some v => exact h v (List.mem_of_getElem? hi)
  unfold gb
  split <;> omega
theorem gb_snoc (g : List Nat) (n : Nat) (i : Nat) : gb (g ++ [n]) i = if i = 2 * g.length then n / 256 else if i = 2 * g.length + 1 then n % 256 else gb g i := by
  unfold gb
  rw [List.getD_eq_getElem?_getD, List.getD_eq_getElem?_getD]
  by_cases h0 : i = 2 * g.length
  · subst h0
    rw [if_pos (by omega), if_pos rfl, show 2 * g.length / 2 = g.length by omega, List.getElem?_append_right (Nat.le_refl _), Nat.sub_self]
    rfl
  · by_cases h1 : i = 2 * g.length + 1
    · subst h1
      rw [if_neg (by omega), if_neg (by omega), if_pos rfl, show (2 * g.length + 1) / 2 = g.length by omega, List.getElem?_append_right (Nat.le_refl _), Nat.sub_self]
      rfl
    · rw [if_neg h0, if_neg h1]
      by_cases h2 : i / 2 < g.length
      · rw [List.getElem?_append_left h2]
      · rw [List.getElem?_eq_none (by simp; omega), List.getElem?_eq_none (by omega)]
end Go.Proofs.YteldiggaooeeeaaGreatDoor
namespace Go.Proofs.YteldiggaooeeeaaGreatDoor
open Go.RowKit Go.Maps

def gsC (X : SX) : Array Value := #[.int .u8 (gb X.g 0 : Nat), .int .u8 (gb X.g 1 : Nat), .int .u8 (gb X.g 2 : Nat), .int .u8 (gb X.g 3 : Nat), .int .u8 (gb X.g 4 : Nat), .int .u8 (gb X.g 5 : Nat), .int .u8 (gb X.g 6 : Nat), .int .u8 (gb X.g 7 : Nat), .int .u8 (gb X.g 8 : Nat), .int .u8 (gb X.g 9 : Nat), .int .u8 (gb X.g 10 : Nat), .int .u8 (gb X.g 11 : Nat), .int .u8 (gb X.g 12 : Nat), .int .u8 (gb X.g 13 : Nat), .int .u8 (gb X.g 14 : Nat), .int .u8 (gb X.g 15 : Nat), .int .i64 (X.g.length : Nat), .bool (decide (0 ≤ X.gap)), .int .i64 (X.gap.toNat : Nat)]
def GsAt (w : World) (G : Nat) (X : SX) : Prop := w.heap[G]? = some (.cells (gsC X) 68 (0, 0))
section
variable {w : World} {G : Nat} {X : SX} (k : GsAt w G X)
include k
theorem GsAt.lt : G < w.heap.size := (Array.getElem?_eq_some_iff.1 k).1
theorem GsAt.cell (i : Nat) : w.cell? ⟨G, i, none⟩ = (gsC X)[i]? := by unfold GsAt at k; simp [World.cell?, k]
theorem GsAt.n : w.cell? ⟨G, 16, none⟩ = some (.int .i64 (X.g.length : Nat)) := k.cell 16
theorem GsAt.b : w.cell? ⟨G, 17, none⟩ = some (.bool (decide (0 ≤ X.gap))) := k.cell 17
theorem GsAt.a : w.cell? ⟨G, 18, none⟩ = some (.int .i64 (X.gap.toNat : Nat)) := k.cell 18
theorem GsAt.fz (j : Nat) : w.frozen? ⟨G, j, none⟩ = false := by unfold GsAt at k; simp [World.frozen?, k]
theorem GsAt.ch {S : Nat → Prop} {w' : World} (c : Ch S w w') (hG : ¬ S G) : GsAt w' G X := (c.block G k.lt hG).trans k
theorem GsAt.below {w' : World} (c : Below w.heap.size w w') : GsAt w' G X := k.ch (Ch.ofBelow (S := fun _ => False) c) (fun h => h)
end
/-- the reader and the groups beside it -/
def RG (w A : World) (R G : Nat) (s : ByteArray) (X : SX) : Prop := RdAt A R s X.p ∧ GsAt A G X ∧ Ch (fun k => k = R ∨ k = G) w A
theorem RG.start {w : World} {R G : Nat} {s : ByteArray} {X : SX} (h1 : RdAt w R s X.p) (h2 : GsAt w G X) : RG w w R G s X := ⟨h1, h2, Ch.refl _ _⟩
theorem RG.no {w A B : World} {R G : Nat} {s : ByteArray} {X : SX} (h : RG w A R G s X) (c : NoCh A B) : RG w B R G s X := ⟨rd_no h.1 c, h.2.1.ch c (fun h => h), h.2.2.trans c (fun _ _ h => h.elim)⟩
theorem RG.rd {w A B : World} {R G : Nat} {s : ByteArray} {X : SX} {q : Nat} (h : RG w A R G s X) (hne : G ≠ R) (c : RdC A B R s q) : RG w B R G s { X with p := q } :=
  ⟨c.1, (c.2.block G h.2.1.lt hne).trans h.2.1, h.2.2.trans c.2 (fun _ _ h => .inl h)⟩
theorem RG.to {w A B : World} {R G : Nat} {s : ByteArray} {X Y : SX} (h : RG w A R G s X) (c : RG A B R G s Y) : RG w B R G s Y := ⟨c.1, c.2.1, h.2.2.trans c.2.2 (fun _ _ h => h)⟩
/-- the :: is set down -/
theorem RG.gap {w A : World} {R G : Nat} {s : ByteArray} {X : SX} (h : RG w A R G s X) (hne : G ≠ R) : RG w ((A.setCell ⟨G, 17, none⟩ (.bool true)).setCell ⟨G, 18, none⟩ (.int .i64 (X.g.length : Nat))) R G s { X with gap := (X.g.length : Nat) } := by
  have c : Ch (fun k => k = G) A ((A.setCell ⟨G, 17, none⟩ (.bool true)).setCell ⟨G, 18, none⟩ (.int .i64 (X.g.length : Nat))) := ((Ch.refl (fun k => k = G) A).set ⟨G, 17, none⟩ _ rfl).set ⟨G, 18, none⟩ _ rfl
  refine ⟨h.1.ch c (fun e => hne e.symm), ?_, h.2.2.trans c (fun _ _ h => .inr h)⟩
  unfold GsAt
  rw [heap_setCell_same _ G 18 _ _ _ (heap_setCell_same A G 17 _ _ _ h.2.1)]
  congr 2
/-- what stands behind a group: the state, whether another follows, an error -/
def btO (s : ByteArray) (X : SX) : SX × Bool × Nat :=
  if X.p == s.size then (X, false, if decide (X.g.length < 8) && !decide (0 ≤ X.gap) then 42 else 0)
  else if twB s X.p then (if decide (0 ≤ X.gap) || X.g.length == 8 then (X, false, 44) else ({ X with gap := (X.g.length : Nat), p := X.p + 2 }, !(X.p + 2 == s.size), 0))
  else if sB s X.p == 58 then ({ X with p := X.p + 1 }, true, 0) else (X, false, 41)
def btV (Y : SX × Bool × Nat) : Value := .tuple #[.bool Y.2.1, .int .i64 (Y.2.2 : Nat)]
set_option maxHeartbeats 1600000 in
set_option maxRecDepth 100000 in
theorem widthP_any (b : Bool) (w : World) : Calls Tryz.prog 65 #[.bool b] w fun r w' => r = .returned (.int .i64 (if b then 2 else 1)) ∧ w = w' := by

  go_enter Tryz.func65, Tryz.ntmps65
  cases b with
  | true =>
    go_wp2
    go_ret
    exact ⟨rfl, rfl⟩
  | false =>
    go_wp2
    go_ret
    exact ⟨rfl, rfl⟩
set_option maxHeartbeats 1600000 in
set_option maxRecDepth 100000 in
theorem most_any (G : Nat) (X : SX) (w : World) (h : GsAt w G X) : Calls Tryz.prog 66 #[.pointer (some ⟨G, 0, none⟩)] w fun r w' => r = .returned (.int .i64 (rmN X : Nat)) ∧ w = w' := by
  have k17 := h.b
  obtain ⟨b, hb⟩ : ∃ b, decide (0 ≤ X.gap) = b := ⟨_, rfl⟩
  rw [hb] at k17
  have HR : Hid (rmN X = if b then 7 else 8) := by show rmN X = _; unfold rmN; rw [hb]
  clear h hb
  rw [HR.out]
  go_enter Tryz.func66, Tryz.ntmps66
  cases b with
  | true =>
    go_wp2
    go_ret
    exact ⟨rfl, rfl⟩
  | false =>
    go_wp2
    go_ret
    exact ⟨rfl, rfl⟩
set_option maxHeartbeats 1600000 in
set_option maxRecDepth 100000 in
theorem betweenP_any (R G : Nat) (s : ByteArray) (X : SX) (w : World) (h1 : RdAt w R s X.p) (h2 : GsAt w G X) (hne : G ≠ R) (hp : X.p ≤ s.size) (hs : s.size ≤ 1000) (hl : X.g.length ≤ 8) : Calls Tryz.prog 33 #[.pointer (some ⟨R, 0, none⟩), .pointer (some ⟨G, 0, none⟩)] w fun r w' => r = .returned (btV (btO s X)) ∧ RG w w' R G s (btO s X).1 := by
  have H : Hid (RG w w R G s X) := RG.start h1 h2
  have HNE : Hid (G ≠ R) := hne
  have HP : Hid (X.p ≤ s.size ∧ s.size ≤ 1000 ∧ X.g.length ≤ 8) := ⟨hp, hs, hl⟩
  obtain ⟨n, hn⟩ : ∃ n, n = X.g.length := ⟨_, rfl⟩
  obtain ⟨b, hb⟩ : ∃ b, b = decide (0 ≤ X.gap) := ⟨_, rfl⟩
  have HNB : Hid (n = X.g.length ∧ b = decide (0 ≤ X.gap)) := ⟨hn, hb⟩
  obtain ⟨bE, hE⟩ : ∃ bE, (X.p == s.size) = bE := ⟨_, rfl⟩
  have HE : Hid ((X.p == s.size) = bE) := hE
  obtain ⟨bT, hT⟩ : ∃ bT, twB s X.p = bT := ⟨_, rfl⟩
  have HT : Hid (twB s X.p = bT) := hT
  clear h1 h2 hne hp hs hl hn hb hE hT
  go_enter Tryz.func33, Tryz.ntmps33
  go_wp2_with fail
  refine (ended_any R s X.p w H.out.1).mono ?_
  rintro e w1 ⟨rfl, hn⟩
  have H1 : Hid (RG w w1 R G s X) := H.out.no hn
  rw [HE.out]
  clear hn
  cases bE with
  | true =>
    have k16 : w1.cell? ⟨G, 16, none⟩ = some (.int .i64 (n : Nat)) := by rw [HNB.out.1]; exact H1.out.2.1.n
    have k17 : w1.cell? ⟨G, 17, none⟩ = some (.bool b) := by rw [HNB.out.2]; exact H1.out.2.1.b
    by_cases h8 : n < 8
    · have p1 : decide ((n : Int) < 8) = true := decide_eq_true (by omega)
      have p2 : (n : Int) < 8 := by omega
      have HO : Hid (btO s X = (X, false, if b then 0 else 42)) := by
        show _ = _
        unfold btO
        rw [HE.out, if_pos rfl, ← HNB.out.1, ← HNB.out.2, decide_eq_true h8]
        cases b <;> rfl
      clear h8
      cases b with
      | true =>
        go_wp2
        (try simp only [Exit.inBlock, Exit.then])
        refine bodyPost_ret (results_tmp2 rfl _ _ _) rfl ?_
        exact ⟨by rw [HO.out]; rfl, by rw [HO.out]; exact H1.out⟩
      | false =>
        go_wp2
        (try simp only [Exit.inBlock, Exit.then])
        refine bodyPost_ret (results_tmp2 rfl _ _ _) rfl ?_
        exact ⟨by rw [HO.out]; rfl, by rw [HO.out]; exact H1.out⟩
    · have p1 : decide ((n : Int) < 8) = false := decide_eq_false (by omega)
      have p2 : ¬ (n : Int) < 8 := by omega
      have HO : Hid (btO s X = (X, false, 0)) := by
        show _ = _
        unfold btO
        rw [HE.out, if_pos rfl, ← HNB.out.1, decide_eq_false h8]
        rfl
      clear h8
      go_wp2
      (try simp only [Exit.inBlock, Exit.then])
      refine bodyPost_ret (results_tmp2 rfl _ _ _) rfl ?_
      exact ⟨by rw [HO.out]; rfl, by rw [HO.out]; exact H1.out⟩
  | false =>
    go_wp2_with fail
    refine (stands_any R s ⟨#[58, 58]⟩ X.p w1 H1.out.1 HP.out.1).mono ?_
    rintro e w2 ⟨rfl, hn⟩
    have H2 : Hid (RG w w2 R G s X) := H1.out.no hn
    rw [stB_two, HT.out]
    clear hn
    cases bT with
    | true =>
      have k16 : w2.cell? ⟨G, 16, none⟩ = some (.int .i64 (n : Nat)) := by rw [HNB.out.1]; exact H2.out.2.1.n
      have k17 : w2.cell? ⟨G, 17, none⟩ = some (.bool b) := by rw [HNB.out.2]; exact H2.out.2.1.b
      cases b with
      | true =>
        have HO : Hid (btO s X = (X, false, 44)) := by
          show _ = _
          unfold btO
          rw [HE.out, if_neg (by decide), HT.out, if_pos rfl, ← HNB.out.2]
          rfl
        go_wp2
        (try simp only [Exit.inBlock, Exit.then])
        refine bodyPost_ret (results_tmp2 rfl _ _ _) rfl ?_
        exact ⟨by rw [HO.out]; rfl, by rw [HO.out]; exact H2.out⟩
      | false =>
        by_cases h8 : n = 8
        · have p1 : ((n : Int) == 8) = true := by simp; omega
          have HO : Hid (btO s X = (X, false, 44)) := by
            show _ = _
            unfold btO
            rw [HE.out, if_neg (by decide), HT.out, if_pos rfl, ← HNB.out.1, h8, if_pos (by simp)]
          clear h8
          go_wp2
          (try simp only [Exit.inBlock, Exit.then])
          refine bodyPost_ret (results_tmp2 rfl _ _ _) rfl ?_
          exact ⟨by rw [HO.out]; rfl, by rw [HO.out]; exact H2.out⟩
        · have p1 : ((n : Int) == 8) = false := by simp; omega
          have HO : Hid (btO s X = ({ X with gap := (X.g.length : Nat), p := X.p + 2 }, !(X.p + 2 == s.size), 0)) := by
            show _ = _
            unfold btO
            rw [HE.out, if_neg (by decide), HT.out, if_pos rfl, ← HNB.out.1, ← HNB.out.2, if_neg (by simp [h8])]
          clear h8
          go_wp2_with fail
          refine (skip_any R s ⟨#[58, 58]⟩ X.p w2 H2.out.1 HP.out.1 HP.out.2.1 (by decide)).mono ?_
          rintro e w3 ⟨rfl, hrd, hch⟩
          rw [stB_two, HT.out] at hrd
          have H3 : Hid (RG w w3 R G s { X with p := X.p + 2 }) := H2.out.rd HNE.out ⟨hrd, hch⟩
          clear hrd hch k16 k17
          have k16 : w3.cell? ⟨G, 16, none⟩ = some (.int .i64 (n : Nat)) := by rw [HNB.out.1]; exact H3.out.2.1.n
          have k17 : w3.cell? ⟨G, 17, none⟩ = some (.bool false) := by rw [HNB.out.2]; exact H3.out.2.1.b
          have f17 : w3.frozen? ⟨G, 17, none⟩ = false := H3.out.2.1.fz 17
          have k18 : w3.cell? ⟨G, 18, none⟩ = some (.int .i64 (X.gap.toNat : Nat)) := H3.out.2.1.a
          have f18 : w3.frozen? ⟨G, 18, none⟩ = false := H3.out.2.1.fz 18
          obtain ⟨w4, hw4⟩ : ∃ w4, w4 = (w3.setCell ⟨G, 17, none⟩ (.bool true)).setCell ⟨G, 18, none⟩ (.int .i64 (n : Nat)) := ⟨_, rfl⟩
          have H4 : Hid (RG w w4 R G s { X with p := X.p + 2, gap := (X.g.length : Nat) }) := by
            have h := H3.out.gap HNE.out
            show RG _ _ _ _ _ _
            rw [hw4, HNB.out.1]
            exact h
          have HW4 : Hid ((w3.setCell ⟨G, 17, none⟩ (.bool true)).setCell ⟨G, 18, none⟩ (.int .i64 (n : Nat)) = w4) := hw4.symm
          clear hw4
          go_wp2_with fail
          rw [HW4.out]
          refine (ended_any R s (X.p + 2) w4 H4.out.1).mono ?_
          rintro e w5 ⟨rfl, hn⟩
          have H5 : Hid (RG w w5 R G s { X with p := X.p + 2, gap := (X.g.length : Nat) }) := H4.out.no hn
          clear hn k16 k17 f17 k18 f18
          go_wp2
          (try simp only [Exit.inBlock, Exit.then])
          refine bodyPost_ret (results_tmp2 rfl _ _ _) rfl ?_
          exact ⟨by rw [HO.out]; rfl, by rw [HO.out]; exact H5.out⟩
    | false =>
      go_wp2_with fail
      obtain ⟨bC, hC⟩ : ∃ bC, (sB s X.p == 58) = bC := ⟨_, rfl⟩
      have HSK : Hid (stB s X.p ⟨#[58]⟩ = bC) := by
        show _ = _
        have h1 := HE.out
        have h2 := HP.out.1
        simp at h1
        rw [stB_one h2, decide_eq_true (by omega), Bool.true_and]
        exact hC
      have HC : Hid ((sB s X.p == 58) = bC) := hC
      clear hC
      refine (skip_any R s ⟨#[58]⟩ X.p w2 H2.out.1 HP.out.1 HP.out.2.1 (by decide)).mono ?_
      rintro e w3 ⟨rfl, hrd, hch⟩
      rw [HSK.out] at hrd ⊢
      cases bC with
      | true =>
        have H3 : Hid (RG w w3 R G s { X with p := X.p + 1 }) := H2.out.rd HNE.out ⟨hrd, hch⟩
        have HO : Hid (btO s X = ({ X with p := X.p + 1 }, true, 0)) := by
          show _ = _
          unfold btO
          rw [HE.out, if_neg (by decide), HT.out, if_neg (by decide), HC.out, if_pos rfl]
        clear hrd hch
        go_wp2
        (try simp only [Exit.inBlock, Exit.then])
        refine bodyPost_ret (results_tmp2 rfl _ _ _) rfl ?_
        exact ⟨by rw [HO.out]; rfl, by rw [HO.out]; exact H3.out⟩
      | false =>
        have H3 : Hid (RG w w3 R G s { X with p := X.p }) := H2.out.rd HNE.out ⟨hrd, hch⟩
        have HO : Hid (btO s X = (X, false, 41)) := by
          show _ = _
          unfold btO
          rw [HE.out, if_neg (by decide), HT.out, if_neg (by decide), HC.out, if_neg (by decide)]
        clear hrd hch
        go_wp2
        (try simp only [Exit.inBlock, Exit.then])
        refine bodyPost_ret (results_tmp2 rfl _ _ _) rfl ?_
        exact ⟨by rw [HO.out]; rfl, by rw [HO.out]; exact H3.out⟩
end Go.Proofs.YteldiggaooeeeaaGreatDoor
namespace Go.Proofs.YteldiggaooeeeaaGreatDoor
open Go.RowKit

section
variable {s : ByteArray} {X : SX} {q : Nat} (hq : scP s hxB X.p = q)
include hq
theorem grp_none (h : q = X.p) : grp s X = (X.fail (hrE s X.p).1 (hrE s X.p).2, true) := by
  unfold grp grpq
  rw [hq, if_pos (by simp [h])]
theorem grp_many (hne : q ≠ X.p) (t : Bool) (ht : tlB s X q = t) (h : rmN X < X.g.length + (if t then 2 else 1)) : grp s X = (X.fail 44 X.p, true) := by
  unfold grp grpq
  rw [hq, if_neg (by simp [hne]), ht, if_pos (by simp only [decide_eq_true_eq]; exact h)]
theorem grp_tailE (hne : q ≠ X.p) (ht : tlB s X q = true) (h : ¬ rmN X < X.g.length + 2) {e : Nat × Nat} (hd : dtd s 4 X.p [] = .inr e) : grp s X = (X.fail e.1 e.2, true) := by
  unfold grp grpq
  rw [hq, if_neg (by simp [hne]), ht, if_neg (by simp only [decide_eq_true_eq]; exact h), if_pos rfl, hd]
theorem grp_tail (hne : q ≠ X.p) (ht : tlB s X q = true) (h : ¬ rmN X < X.g.length + 2) {l : List Nat} (hd : dtd s 4 X.p [] = .inl l) : grp s X = ({ X with g := X.g ++ [256 * l.getD 0 0 + l.getD 1 0, 256 * l.getD 2 0 + l.getD 3 0], p := s.size }, true) := by
  unfold grp grpq
  rw [hq, if_neg (by simp [hne]), ht, if_neg (by simp only [decide_eq_true_eq]; exact h), if_pos rfl, hd]
theorem grp_long (hne : q ≠ X.p) (ht : tlB s X q = false) (h : ¬ rmN X < X.g.length + 1) (h4 : 4 < q - X.p) : grp s X = (X.fail 43 X.p, true) := by
  unfold grp grpq
  rw [hq, if_neg (by simp [hne]), ht, if_neg (by simp only [decide_eq_true_eq]; exact h), if_neg (by decide), if_pos (by simp only [decide_eq_true_eq]; exact h4)]
theorem grp_one (hne : q ≠ X.p) (ht : tlB s X q = false) (h : ¬ rmN X < X.g.length + 1) (h4 : ¬ 4 < q - X.p) : grp s X = ({ X with g := X.g ++ [hxN s X.p (q - X.p)], p := q }, q == s.size) := by
  unfold grp grpq
  rw [hq, if_neg (by simp [hne]), ht, if_neg (by simp only [decide_eq_true_eq]; exact h), if_neg (by decide), if_neg (by simp only [decide_eq_true_eq]; exact h4)]
end
theorem SX.fail_at {X : SX} (h : X.er = 0) (e a : Nat) : X.fail e a = { X with er := e, pl := a } := by unfold SX.fail; rw [h]; rfl
/-- does a tail stand at q? -/
theorem tl_eq {s : ByteArray} {X : SX} {q : Nat} (hh : SxHd X) : tlB s X q = ((decide (q < s.size) && sB s q == 46) && (decide (0 < X.g.length) || decide (0 ≤ X.gap))) := by
  unfold tlB
  congr 1
  unfold SxHd at hh
  rw [Bool.eq_iff_iff]
  simp only [decide_eq_true_eq, Bool.or_eq_true]
  exact hh
theorem gsC_byte (X : SX) (i : Nat) (hi : i < 16) : (gsC X)[i]? = some (.int .u8 (gb X.g i : Nat)) := by
  rcases lt16' hi with rfl | rfl | rfl | rfl | rfl | rfl | rfl | rfl | rfl | rfl | rfl | rfl | rfl | rfl | rfl | rfl <;> rfl
theorem gsC_one (X : SX) (n v q : Nat) (hn : X.g.length = n) (h : n ≤ 7) : (((gsC X).setIfInBounds (2 * n) (.int .u8 (v / 256 : Nat))).setIfInBounds (2 * n + 1) (.int .u8 (v % 256 : Nat))).setIfInBounds 16 (.int .i64 (n + 1 : Nat)) = gsC { X with g := X.g ++ [v], p := q } := by
  rcases (show n = 0 ∨ n = 1 ∨ n = 2 ∨ n = 3 ∨ n = 4 ∨ n = 5 ∨ n = 6 ∨ n = 7 by omega) with rfl | rfl | rfl | rfl | rfl | rfl | rfl | rfl <;> simp [gsC, gb_snoc, hn]
theorem gsC_tail (X : SX) (n q : Nat) (hn : X.g.length = n) (h : n ≤ 6) (l : List Nat) (hl : l.length = 4) (hb : ∀ i, l.getD i 0 < 256) : wrL ((gsC X).setIfInBounds 16 (.int .i64 (n + 2 : Nat))) (2 * n) l = gsC { X with g := X.g ++ [256 * l.getD 0 0 + l.getD 1 0, 256 * l.getD 2 0 + l.getD 3 0], p := q } := by
  obtain ⟨a, b, c, d, rfl⟩ := list4 hl
  have hb1 : b < 256 := hb 1
  have hb3 : d < 256 := hb 3
  have e1 : (256 * a + b) / 256 = a := by omega
  have e2 : (256 * a + b) % 256 = b := by omega
  have e3 : (256 * c + d) / 256 = c := by omega
  have e4 : (256 * c + d) % 256 = d := by omega
  have e5 : ∀ u v : Nat, X.g ++ [u, v] = (X.g ++ [u]) ++ [v] := fun u v => by simp
  show wrL _ _ _ = gsC { X with g := X.g ++ [256 * a + b, 256 * c + d], p := q }
  rw [e5]
  obtain ⟨g1, hg1⟩ : ∃ g1, g1 = X.g ++ [256 * a + b] := ⟨_, rfl⟩
  have hl1 : g1.length = n + 1 := by rw [hg1]; simp [hn]
  have hs : ∀ i, gb g1 i = if i = 2 * n then a else if i = 2 * n + 1 then b else gb X.g i := fun i => by rw [hg1, gb_snoc, hn, e1, e2]
  rw [← hg1]
  clear hb e5 hg1 hl e1 e2
  rcases (show n = 0 ∨ n = 1 ∨ n = 2 ∨ n = 3 ∨ n = 4 ∨ n = 5 ∨ n = 6 by omega) with rfl | rfl | rfl | rfl | rfl | rfl | rfl <;> simp [gsC, gb_snoc, hs, hl1, wrL, List.range_succ, e3, e4]
end Go.Proofs.YteldiggaooeeeaaGreatDoor
namespace Go.Proofs.YteldiggaooeeeaaGreatDoor
open Go.RowKit Go.Maps

/-- what group leaves -/
def GrR (w : World) (R G : Nat) (s : ByteArray) (X : SX) (r : Ending) (w' : World) : Prop :=
  r = .returned (.int .i64 ((grp s X).1.er : Nat)) ∧ ((grp s X).1.er = 0 → RG w w' R G s (grp s X).1) ∧ ((grp s X).1.er ≠ 0 → RdAt w' R s (grp s X).1.pl) ∧ Ch (fun k => k = R ∨ k = G) w w'
theorem GrR.er {w : World} {R G : Nat} {s : ByteArray} {X : SX} {r : Ending} {w' : World} {e a : Nat} (h : grp s X = (X.fail e a, true)) (hX : X.er = 0) (he : e ≠ 0) (hr : r = .returned (.int .i64 (e : Nat))) (hrd : RdAt w' R s a) (c : Ch (fun k => k = R ∨ k = G) w w') : GrR w R G s X r w' := by
  unfold GrR
  rw [h, SX.fail_at hX]
  exact ⟨hr, fun q => absurd q he, fun _ => hrd, c⟩
theorem GrR.ok {w : World} {R G : Nat} {s : ByteArray} {X Y : SX} {b : Bool} {r : Ending} {w' : World} (h : grp s X = (Y, b)) (hY : Y.er = 0) (hr : r = .returned (.int .i64 0)) (k : RG w w' R G s Y) : GrR w R G s X r w' := by
  unfold GrR
  rw [h]
  exact ⟨by rw [hr, hY]; rfl, fun _ => k, fun q => absurd hY q, k.2.2⟩
/-- the reader, the count, and nothing else written but the two blocks -/
def RN (w A : World) (R G : Nat) (s : ByteArray) (q n : Nat) : Prop := RdAt A R s q ∧ A.cell? ⟨G, 16, none⟩ = some (.int .i64 (n : Nat)) ∧ Ch (fun k => k = R ∨ k = G) w A
theorem RN.drew {w A : World} {R G : Nat} {s : ByteArray} {q n : Nat} (h : RN w A R G s q n) : RN w A.drew R G s q n := ⟨rd_no h.1 (Ch.refl _ _).drew, h.2.1, h.2.2.drew⟩
theorem RN.set {w A : World} {R G : Nat} {s : ByteArray} {q n : Nat} {C : Array Value} {t : TypeId} (h : RN w A R G s q n) (hne : G ≠ R) (hb : A.heap[G]? = some (.cells C t (0, 0))) (i : Nat) (hi : i ≠ 16) (v : Value) : RN w (A.setCell ⟨G, i, none⟩ v) R G s q n := by
  refine ⟨h.1.ch ((Ch.refl (fun k => k = G) A).set ⟨G, i, none⟩ v rfl) (fun e => hne e.symm), ?_, h.2.2.set ⟨G, i, none⟩ v (.inr rfl)⟩
  have k := heap_setCell_same A G i _ _ v hb
  have e := h.2.1
  rw [show A.cell? ⟨G, 16, none⟩ = C[16]? by simp [World.cell?, hb]] at e
  rw [show (A.setCell ⟨G, i, none⟩ v).cell? ⟨G, 16, none⟩ = (C.setIfInBounds i v)[16]? by simp [World.cell?, k], Array.getElem?_setIfInBounds_ne hi]
  exact e
theorem RG.rn {w A : World} {R G : Nat} {s : ByteArray} {X : SX} (h : RG w A R G s X) : RN w A R G s X.p X.g.length := ⟨h.1, h.2.1.n, h.2.2⟩
theorem GsAt.drew {w : World} {G : Nat} {X : SX} (h : GsAt w G X) : GsAt w.drew G X := h.ch (Ch.refl (fun _ => False) w).drew (fun h => h)
set_option maxHeartbeats 4000000 in
set_option maxRecDepth 100000 in
theorem group_any (R G : Nat) (s : ByteArray) (X : SX) (w : World) (h1 : RdAt w R s X.p) (h2 : GsAt w G X) (hne : G ≠ R) (hs : s.size ≤ 1000) (ho : SxOk s X) (hh : SxHd X) (he : X.er = 0) : Calls Tryz.prog 32 #[.pointer (some ⟨R, 0, none⟩), .pointer (some ⟨G, 0, none⟩)] w fun r w' => GrR w R G s X r w' := by
  have H : Hid (RG w w R G s X) := RG.start h1 h2
  have HNE : Hid (G ≠ R) := hne
  have HP : Hid (s.size ≤ 1000) := hs
  have HOK : Hid (SxOk s X) := ho
  have HHD : Hid (SxHd X) := hh
  have HX0 : Hid (X.er = 0) := he
  have c1 := h1.c1
  obtain ⟨q, hq⟩ : ∃ q, scP s hxB X.p = q := ⟨_, rfl⟩
  have HQ : Hid (scP s hxB X.p = q ∧ scP s (dgF 16) X.p = q) := ⟨hq, by rw [dgF_hex]; exact hq⟩
  have HQB : Hid (X.p ≤ q ∧ q ≤ s.size) := ⟨by rw [← hq]; exact scP_ge _ _ _, by rw [← hq]; exact scP_le ho.p⟩
  have HHX : Hid (∀ i, X.p ≤ i → i < q → hxB (sB s i) = true) := fun i h1 h2 => scP_all h1 (by rw [hq]; exact h2)
  obtain ⟨n, hn⟩ : ∃ n, n = X.g.length := ⟨_, rfl⟩
  obtain ⟨b, hb⟩ : ∃ b, b = decide (0 ≤ X.gap) := ⟨_, rfl⟩
  have HNB : Hid (n = X.g.length ∧ b = decide (0 ≤ X.gap)) := ⟨hn, hb⟩
  have HN8 : Hid (n ≤ 8) := by show _ ≤ _; rw [hn]; exact ho.l
  clear h1 h2 hne hs ho hh he hq hn hb
  go_enter Tryz.func32, Tryz.ntmps32
  go_wp2_with fail
  refine (digits_any R s X.p 16 w H.out.1 HOK.out.p HP.out).mono ?_
  rintro e w1 ⟨rfl, hn⟩
  rw [HQ.out.2] at hn
  have H1 : Hid (RG w w1 R G s { X with p := q }) := H.out.rd HNE.out hn
  clear hn c1
  by_cases hqp : q = X.p
  · rw [dgR_no (HQ.out.2.trans hqp)]
    have HZ : Hid (grp s X = (X.fail (hrE s X.p).1 (hrE s X.p).2, true)) := grp_none HQ.out.1 hqp
    obtain ⟨er, her⟩ : ∃ er : Nat, er = (hrE s X.p).1 := ⟨_, rfl⟩
    have HER : Hid ((hrE s X.p).1 = er ∧ er ≠ 0 ∧ (hrE s X.p).2 = q) := ⟨her.symm, by rw [her]; exact (hrE_ne s X.p).1, by rw [hqp]; have := HOK.out.p; unfold hrE; split <;> simp <;> omega⟩
    have e1 : (((er : Nat) : Int) != 0) = true := by rw [her]; unfold hrE; split <;> rfl
    rw [← her]
    clear hqp her
    go_wp2
    (try simp only [Exit.inBlock, Exit.then])
    go_ret
    exact GrR.er (e := er) (a := q) (by rw [HZ.out, HER.out.1, HER.out.2.2]) HX0.out HER.out.2.1 rfl H1.out.1 H1.out.2.2
  · have HQN : Hid (q ≠ X.p) := hqp
    rw [dgR_yes HQ.out.2 hqp]
    obtain ⟨d, hd⟩ : ∃ d, d = cutB s X.p q := ⟨_, rfl⟩
    have HD : Hid (d = cutB s X.p q ∧ d.size = q - X.p) := ⟨hd, by rw [hd]; exact cutB_size HQB.out.1 HQB.out.2⟩
    rw [← hd]
    clear hqp hd
    go_wp2_with fail
    refine (stands_any R s ⟨#[46]⟩ q w1 H1.out.1 HQB.out.2).mono ?_
    rintro e w2 ⟨rfl, hn⟩
    have H2 : Hid (RG w w2 R G s { X with p := q }) := H1.out.no hn
    obtain ⟨bS, hbS⟩ : ∃ bS, (decide (q < s.size) && sB s q == 46) = bS := ⟨_, rfl⟩
    have HSS : Hid (stB s q ⟨#[46]⟩ = bS) := by show _ = _; rw [stB_one HQB.out.2]; exact hbS
    have HTL : Hid (tlB s X q = (bS && (decide (0 < n) || b))) := by show _ = _; rw [tl_eq HHD.out, hbS, HNB.out.1, HNB.out.2]
    have k16 : w2.cell? ⟨G, 16, none⟩ = some (.int .i64 (n : Nat)) := by rw [HNB.out.1]; exact H2.out.2.1.n
    have k17 : w2.cell? ⟨G, 17, none⟩ = some (.bool b) := by rw [HNB.out.2]; exact H2.out.2.1.b
    rw [HSS.out]
    clear hn hbS
    cases bS with
    | false =>
      have HT : Hid (tlB s X q = false) := by show _ = _; rw [HTL.out]; rfl
      go_upto_region 6 with fail
      obtain ⟨m, hm⟩ : ∃ m, m = rmN X := ⟨_, rfl⟩
      have HM : Hid (m = rmN X) := hm
      have HM8 : Hid (m ≤ 8) := by show _ ≤ _; rw [hm]; exact rmN_le X
      clear hm
      have x6 : IntKind.i64.wrap ((n : Int) + 1) = (n : Int) + 1 := i64_s _ (by omega) (by have := HN8.out; omega)
      refine MixH.start (fun A => RG w A R G s { X with p := q }) (by kernel_rfl) ?_
      obtain ⟨wA, hwA⟩ : ∃ W_, W_ = w2.drew := ⟨_, rfl⟩
      have bdr : Below w2.heap.size w2 wA := by rw [hwA]; exact (Below.refl _ _).drew
      have hS : RG w wA R G s { X with p := q } := H2.out.no (Ch.ofBelow bdr)
      rw [← hwA]
      clear hwA bdr
      refine MixH.takes [true, true, true, false, true, false, false, true] 5 (by kernel_rfl) (by kernel_rfl) (by decide) (by kernel_rfl) hS (fun K hK => ?_)
      simp only [Mix.pick]
      repeat (go_big_quiet_step (fail))
      refine wpQuiet_nil (hK _ ?_)
      clear hK K
      refine MixH.take 4 3 _ (.int .i64 (n : Nat)) rfl (by kernel_rfl) (by kernel_rfl) (by kernel_rfl) (by kernel_rfl) (yields_int (.tmp 40) rfl ⟨G, 16, none⟩ (.int .i64 (n : Nat)) rfl rfl (fun A hA => by rw [HNB.out.1]; exact hA.2.1.n)) hS (fun a' ha => ?_)
      simp only [Act.put, List.setIfInBounds_toArray, List.set_cons_succ, List.set_cons_zero] at ha
      subst ha
      refine MixH.one [false, false, false, false, false, true] 3 5 _ rfl rfl (by kernel_rfl) (by kernel_rfl) (fun K hK => ?_)
      simp only [Mix.pick]
      go_wp2_with fail
      refine Calls.mono (widthP_any false wA) ?_
      rintro e wz ⟨rfl, rfl⟩
      rw [if_neg (by decide)]
      go_wp2_with fail
      refine ⟨rfl, hK _ _ hS ?_⟩
      clear hK K
      refine MixH.takes [false, false, false, false, false, false, true] 2 (by kernel_rfl) (by kernel_rfl) (by decide) (by kernel_rfl) hS (fun K hK => ?_)
      simp only [Mix.pick]
      repeat (go_big_quiet_step (fail))
      refine wpQuiet_nil (hK _ ?_)
      clear hK K
      refine MixH.one [false, false, false, false, false, false, false, false, true] 1 8 _ rfl rfl (by kernel_rfl) (by kernel_rfl) (fun K hK => ?_)
      simp only [Mix.pick]
      go_wp2_with fail
      refine Calls.mono (most_any G { X with p := q } wA hS.2.1) ?_
      rintro e wz ⟨rfl, rfl⟩
      rw [show rmN { X with p := q } = m from HM.out.symm]
      go_wp2_with fail
      refine ⟨rfl, hK _ _ hS ?_⟩
      clear hK K
      refine MixH.takes [false, false, false, false, false, false, false, false, false, true] 0 (by kernel_rfl) (by kernel_rfl) (by decide) (by kernel_rfl) hS (fun K hK => ?_)
      simp only [Mix.pick]
      repeat (go_big_quiet_step (fail))
      refine wpQuiet_nil (hK _ ?_)
      clear hK K
      refine MixH.done (by kernel_rfl) ?_
      have H6 : Hid (RG w wA R G s { X with p := q }) := hS
      clear hS
      by_cases hm : m < n + 1
      · have m1 : decide ((m : Int) < (n : Int) + 1) = true := decide_eq_true (by omega)
        have m2 : (m : Int) < (n : Int) + 1 := by omega
        have HZ : Hid (grp s X = (X.fail 44 X.p, true)) := grp_many HQ.out.1 HQN.out false HT.out (by rw [← HM.out, ← HNB.out.1]; exact hm)
        clear hm
        go_wp2_with fail
        refine (refuse_any R s q X.p 44 wA H6.out.1).mono ?_
        rintro e w3 ⟨rfl, k1, k2⟩
        have H7 : Hid (RdAt w3 R s X.p ∧ Ch (fun k => k = R ∨ k = G) w w3) := ⟨k1, H6.out.2.2.trans k2 (fun _ _ h => .inl h)⟩
        clear k1 k2
        go_wp2
        (try simp only [Exit.inBlock, Exit.then])
        go_ret
        exact GrR.er HZ.out HX0.out (by decide) rfl H7.out.1 H7.out.2
      · have m1 : decide ((m : Int) < (n : Int) + 1) = false := decide_eq_false (by omega)
        have m2 : ¬ (m : Int) < (n : Int) + 1 := by omega
        have HMN : Hid (¬ rmN X < X.g.length + 1 ∧ n + 1 ≤ 8) := ⟨by rw [← HM.out, ← HNB.out.1]; exact hm, by have := HM8.out; omega⟩
        clear hm
        by_cases h4 : 4 < d.size
        · have p3 : decide ((4 : Int) < (d.size : Int)) = true := decide_eq_true (by omega)
          have p4 : decide (4 < d.size) = true := decide_eq_true h4
          have HZ : Hid (grp s X = (X.fail 43 X.p, true)) := grp_long HQ.out.1 HQN.out HT.out HMN.out.1 (by rw [← HD.out.2]; exact h4)
          clear h4
          go_wp2_with fail
          refine (refuse_any R s q X.p 43 wA H6.out.1).mono ?_
          rintro e w3 ⟨rfl, k1, k2⟩
          have H7 : Hid (RdAt w3 R s X.p ∧ Ch (fun k => k = R ∨ k = G) w w3) := ⟨k1, H6.out.2.2.trans k2 (fun _ _ h => .inl h)⟩
          clear k1 k2
          go_wp2
          (try simp only [Exit.inBlock, Exit.then])
          go_ret
          exact GrR.er HZ.out HX0.out (by decide) rfl H7.out.1 H7.out.2
        · have p3 : decide ((4 : Int) < (d.size : Int)) = false := decide_eq_false (by omega)
          have p4 : decide (4 < d.size) = false := decide_eq_false h4
          obtain ⟨v, hv⟩ : ∃ v, vlN d 16 d.size = v := ⟨_, rfl⟩
          have HV : Hid (vlN d 16 d.size = v ∧ v = hxN s X.p (q - X.p) ∧ d.size ≤ 4) := ⟨hv, by rw [← hv, HD.out.2, HD.out.1]; exact vlN_hx HQB.out.2 HHX.out _ (Nat.le_refl _), by omega⟩
          have hv6 : v < 65536 := by rw [HV.out.2.1]; exact hxN_small (by rw [← HD.out.2]; exact HV.out.2.2)
          have HV6 : Hid (v < 65536) := hv6
          have HZ : Hid (grp s X = ({ X with g := X.g ++ [v], p := q }, q == s.size)) := by
            show _ = _
            rw [HV.out.2.1]
            exact grp_one HQ.out.1 HQN.out HT.out HMN.out.1 (by rw [← HD.out.2]; exact h4)
          obtain ⟨k2, hk2⟩ : ∃ k2, k2 = 2 * n := ⟨_, rfl⟩
          have HK2 : Hid (k2 = 2 * n) := hk2
          have h7 := HMN.out.2
          have x7 : IntKind.i64.wrap (2 * (n : Int)) = (k2 : Int) := by rw [i64_s _ (by omega) (by omega)]; omega
          have x8 : IntKind.i64.wrap ((k2 : Int) + 1) = (k2 : Int) + 1 := i64_s _ (by omega) (by omega)
          have b1 : (k2 : Int) < 16 := by omega
          have b2 : (k2 : Int) + 1 < 16 := by omega
          have b3 : (0 : Int) ≤ (k2 : Int) := by omega
          have b4 : (0 : Int) ≤ (k2 : Int) + 1 := by omega
          clear h4 hv hv6 hk2 h7 k16 k17
          go_wp2_with fail
          refine (value_any d 16 wA HV.out.2.2 (by decide)).mono ?_
          rintro e wz ⟨rfl, rfl⟩
          rw [HV.out.1]
          go_upto_region 16 with fail
          refine MixH.start (fun A => RN w A R G s q n) (by kernel_rfl) ?_
          obtain ⟨wB, hwA⟩ : ∃ W_, W_ = wA.drew := ⟨_, rfl⟩
          have bdr : Below wA.heap.size wA wB := by rw [hwA]; exact (Below.refl _ _).drew
          have hS : RN w wB R G s q n := by rw [HNB.out.1]; exact (H6.out.no (Ch.ofBelow bdr)).rn
          have HG1 : Hid (GsAt wB G { X with p := q }) := H6.out.2.1.below bdr
          rw [← hwA]
          clear hwA bdr
          refine MixH.takes [true, true, true, true, false, false, true, true, true, true, false, false, false, true, true, true, true, true, true, true, false, false, true, true] 9 (by kernel_rfl) (by kernel_rfl) (by decide) (by kernel_rfl) hS (fun K hK => ?_)
          simp only [Mix.pick]
          repeat (go_big_quiet_step (fail))
          refine wpQuiet_nil (hK _ ?_)
          clear hK K
          refine MixH.take 8 4 _ (.int .i64 (n : Nat)) rfl (by kernel_rfl) (by kernel_rfl) (by kernel_rfl) (by kernel_rfl) (yields_int (.tmp 90) rfl ⟨G, 16, none⟩ (.int .i64 (n : Nat)) rfl rfl (fun A hA => hA.2.1)) hS (fun a' ha => ?_)
          simp only [Act.put, List.setIfInBounds_toArray, List.set_cons_succ, List.set_cons_zero] at ha
          subst ha
          refine MixH.takes [false, false, false, false, false, true] 7 (by kernel_rfl) (by kernel_rfl) (by decide) (by kernel_rfl) hS (fun K hK => ?_)
          simp only [Mix.pick]
          repeat (go_big_quiet_step (fail))
          refine wpQuiet_nil (hK _ ?_)
          clear hK K
          refine MixH.take 6 10 _ (.int .i64 (n : Nat)) rfl (by kernel_rfl) (by kernel_rfl) (by kernel_rfl) (by kernel_rfl) (yields_int (.tmp 96) rfl ⟨G, 16, none⟩ (.int .i64 (n : Nat)) rfl rfl (fun A hA => hA.2.1)) hS (fun a' ha => ?_)
          simp only [Act.put, List.setIfInBounds_toArray, List.set_cons_succ, List.set_cons_zero] at ha
          subst ha
          refine MixH.takes [false, false, false, false, false, false, false, false, false, false, false, true, true, false, false, false, false, false, false, false, true] 3 (by kernel_rfl) (by kernel_rfl) (by decide) (by kernel_rfl) hS (fun K hK => ?_)
          simp only [Mix.pick]
          repeat (go_big_quiet_step (fail))
          refine wpQuiet_nil (hK _ ?_)
          clear hK K
          refine MixH.one [false, false, false, false, false, false, false, false, false, false, false, false, false, false, false, false, false, false, false, false, false, true] 2 21 _ rfl rfl (by kernel_rfl) (by kernel_rfl) (fun K hK => ?_)
          simp only [Mix.pick]
          have kc : wB.cell? ⟨G, k2, none⟩ = some (.int .u8 (gb X.g k2 : Nat)) := (HG1.out.cell k2).trans (gsC_byte _ k2 (by omega))
          have kf : wB.frozen? ⟨G, k2, none⟩ = false := HG1.out.fz k2
          go_wp2_with fail
          obtain ⟨wC, hwC⟩ : ∃ W_, W_ = wB.setCell ⟨G, k2, none⟩ (.int .u8 ((v : Int) / 256 % 256)) := ⟨_, rfl⟩
          have HGC : Hid (wC.heap[G]? = some (.cells ((gsC X).setIfInBounds k2 (.int .u8 (v / 256 : Nat))) 68 (0, 0))) := by
            show _ = _
            rw [hwC, show ((v : Int) / 256 % 256) = ((v / 256 : Nat) : Int) by have := HV6.out; omega]
            exact heap_setCell_same _ G k2 _ _ _ HG1.out
          replace hS : RN w wC R G s q n := by rw [hwC]; exact hS.set HNE.out HG1.out k2 (by have := HK2.out; have := HMN.out.2; omega) _
          rw [← hwC]
          clear hwC kc kf
          refine ⟨rfl, hK _ _ hS ?_⟩
          clear hK K
          refine MixH.takes [false, false, false, false, false, false, false, false, false, false, false, false, false, false, false, false, false, false, false, false, false, false, false, false, true] 1 (by kernel_rfl) (by kernel_rfl) (by decide) (by kernel_rfl) hS (fun K hK => ?_)
          simp only [Mix.pick]
          repeat (go_big_quiet_step (fail))
          refine wpQuiet_nil (hK _ ?_)
          clear hK K
          refine MixH.one [false, false, false, false, false, false, false, false, false, false, false, false, false, false, false, false, false, false, false, false, false, false, false, false, false, true] 0 25 _ rfl rfl (by kernel_rfl) (by kernel_rfl) (fun K hK => ?_)
          simp only [Mix.pick]
          have kc : wC.cell? ⟨G, k2 + 1, none⟩ = some (.int .u8 (gb X.g (k2 + 1) : Nat)) := by
            rw [show wC.cell? ⟨G, k2 + 1, none⟩ = ((gsC X).setIfInBounds k2 (.int .u8 (v / 256 : Nat)))[k2 + 1]? by simp [World.cell?, HGC.out], Array.getElem?_setIfInBounds_ne (by omega)]
            exact gsC_byte _ (k2 + 1) (by omega)
          have kf : wC.frozen? ⟨G, k2 + 1, none⟩ = false := by simp [World.frozen?, HGC.out]
          go_wp2_with fail
          obtain ⟨wD, hwD⟩ : ∃ W_, W_ = wC.setCell ⟨G, k2 + 1, none⟩ (.int .u8 ((v : Int) % 256)) := ⟨_, rfl⟩
          have HGD : Hid (wD.heap[G]? = some (.cells (((gsC X).setIfInBounds k2 (.int .u8 (v / 256 : Nat))).setIfInBounds (k2 + 1) (.int .u8 (v % 256 : Nat))) 68 (0, 0))) := by
            show _ = _
            rw [hwD, show ((v : Int) % 256) = ((v % 256 : Nat) : Int) by omega]
            exact heap_setCell_same _ G (k2 + 1) _ _ _ HGC.out
          replace hS : RN w wD R G s q n := by rw [hwD]; exact hS.set HNE.out HGC.out (k2 + 1) (by have := HK2.out; have := HMN.out.2; omega) _
          rw [← hwD]
          clear hwD kc kf
          refine ⟨rfl, hK _ _ hS ?_⟩
          clear hK K
          refine MixH.done (by kernel_rfl) ?_
          have HS9 : Hid (RN w wD R G s q n) := hS
          have k16 : wD.cell? ⟨G, 16, none⟩ = some (.int .i64 (n : Nat)) := hS.2.1
          have f16 : wD.frozen? ⟨G, 16, none⟩ = false := by simp [World.frozen?, HGD.out]
          clear hS
          go_wp2
          (try simp only [Exit.inBlock, Exit.then])
          go_ret
          refine GrR.ok HZ.out HX0.out rfl ⟨?_, ?_, ?_⟩
          · exact HS9.out.1.ch ((Ch.refl (fun k => k = G) wD).set ⟨G, 16, none⟩ _ rfl) (fun e => HNE.out e.symm)
          · have h := heap_setCell_same wD G 16 _ _ (.int .i64 (n + 1 : Nat)) HGD.out
            rw [HK2.out, gsC_one X n v q HNB.out.1.symm (by have := HMN.out.2; omega)] at h
            exact h
          · exact HS9.out.2.2.set ⟨G, 16, none⟩ _ (.inr rfl)
    | true =>
      by_cases h0 : 0 < n
      · have p1 : decide ((0 : Int) < (n : Int)) = true := decide_eq_true (by omega)
        have p2 : decide (0 < n) = true := decide_eq_true h0
        have HT : Hid (tlB s X q = true) := by show _ = _; rw [HTL.out, p2]; rfl
        clear h0
        go_upto_region 6 with fail
        obtain ⟨m, hm⟩ : ∃ m, m = rmN X := ⟨_, rfl⟩
        have HM : Hid (m = rmN X) := hm
        have HM8 : Hid (m ≤ 8) := by show _ ≤ _; rw [hm]; exact rmN_le X
        clear hm
        have x6 : IntKind.i64.wrap ((n : Int) + 2) = (n : Int) + 2 := i64_s _ (by omega) (by have := HN8.out; omega)
        refine MixH.start (fun A => RG w A R G s { X with p := q }) (by kernel_rfl) ?_
        obtain ⟨wA, hwA⟩ : ∃ W_, W_ = w2.drew := ⟨_, rfl⟩
        have bdr : Below w2.heap.size w2 wA := by rw [hwA]; exact (Below.refl _ _).drew
        have hS : RG w wA R G s { X with p := q } := H2.out.no (Ch.ofBelow bdr)
        rw [← hwA]
        clear hwA bdr
        refine MixH.takes [true, true, true, false, true, false, false, true] 5 (by kernel_rfl) (by kernel_rfl) (by decide) (by kernel_rfl) hS (fun K hK => ?_)
        simp only [Mix.pick]
        repeat (go_big_quiet_step (fail))
        refine wpQuiet_nil (hK _ ?_)
        clear hK K
        refine MixH.take 4 3 _ (.int .i64 (n : Nat)) rfl (by kernel_rfl) (by kernel_rfl) (by kernel_rfl) (by kernel_rfl) (yields_int (.tmp 40) rfl ⟨G, 16, none⟩ (.int .i64 (n : Nat)) rfl rfl (fun A hA => by rw [HNB.out.1]; exact hA.2.1.n)) hS (fun a' ha => ?_)
        simp only [Act.put, List.setIfInBounds_toArray, List.set_cons_succ, List.set_cons_zero] at ha
        subst ha
        refine MixH.one [false, false, false, false, false, true] 3 5 _ rfl rfl (by kernel_rfl) (by kernel_rfl) (fun K hK => ?_)
        simp only [Mix.pick]
        go_wp2_with fail
        refine Calls.mono (widthP_any true wA) ?_
        rintro e wz ⟨rfl, rfl⟩
        rw [if_pos rfl]
        go_wp2_with fail
        refine ⟨rfl, hK _ _ hS ?_⟩
        clear hK K
        refine MixH.takes [false, false, false, false, false, false, true] 2 (by kernel_rfl) (by kernel_rfl) (by decide) (by kernel_rfl) hS (fun K hK => ?_)
        simp only [Mix.pick]
        repeat (go_big_quiet_step (fail))
        refine wpQuiet_nil (hK _ ?_)
        clear hK K
        refine MixH.one [false, false, false, false, false, false, false, false, true] 1 8 _ rfl rfl (by kernel_rfl) (by kernel_rfl) (fun K hK => ?_)
        simp only [Mix.pick]
        go_wp2_with fail
        refine Calls.mono (most_any G { X with p := q } wA hS.2.1) ?_
        rintro e wz ⟨rfl, rfl⟩
        rw [show rmN { X with p := q } = m from HM.out.symm]
        go_wp2_with fail
        refine ⟨rfl, hK _ _ hS ?_⟩
        clear hK K
        refine MixH.takes [false, false, false, false, false, false, false, false, false, true] 0 (by kernel_rfl) (by kernel_rfl) (by decide) (by kernel_rfl) hS (fun K hK => ?_)
        simp only [Mix.pick]
        repeat (go_big_quiet_step (fail))
        refine wpQuiet_nil (hK _ ?_)
        clear hK K
        refine MixH.done (by kernel_rfl) ?_
        have H6 : Hid (RG w wA R G s { X with p := q }) := hS
        clear hS
        by_cases hm : m < n + 2
        · have m1 : decide ((m : Int) < (n : Int) + 2) = true := decide_eq_true (by omega)
          have m2 : (m : Int) < (n : Int) + 2 := by omega
          have HZ : Hid (grp s X = (X.fail 44 X.p, true)) := grp_many HQ.out.1 HQN.out true HT.out (by rw [← HM.out, ← HNB.out.1]; exact hm)
          clear hm
          go_wp2_with fail
          refine (refuse_any R s q X.p 44 wA H6.out.1).mono ?_
          rintro e w3 ⟨rfl, k1, k2⟩
          have H7 : Hid (RdAt w3 R s X.p ∧ Ch (fun k => k = R ∨ k = G) w w3) := ⟨k1, H6.out.2.2.trans k2 (fun _ _ h => .inl h)⟩
          clear k1 k2
          go_wp2
          (try simp only [Exit.inBlock, Exit.then])
          go_ret
          exact GrR.er HZ.out HX0.out (by decide) rfl H7.out.1 H7.out.2
        · have m1 : decide ((m : Int) < (n : Int) + 2) = false := decide_eq_false (by omega)
          have m2 : ¬ (m : Int) < (n : Int) + 2 := by omega
          have HMN : Hid (¬ rmN X < X.g.length + 2 ∧ n + 2 ≤ 8) := ⟨by rw [← HM.out, ← HNB.out.1]; exact hm, by have := HM8.out; omega⟩
          clear hm
          obtain ⟨k2, hk2⟩ : ∃ k2, k2 = 2 * n := ⟨_, rfl⟩
          have HK2 : Hid (k2 = 2 * n) := hk2
          have h7 := HMN.out.2
          have x7 : IntKind.i64.wrap (2 * (n : Int)) = (k2 : Int) := by rw [i64_s _ (by omega) (by omega)]; omega
          have x8 : IntKind.i64.wrap ((k2 : Int) + 4) = (k2 : Int) + 4 := i64_s _ (by omega) (by omega)
          have b1 : (k2 : Int) + 4 ≤ 16 := by omega
          have b3 : (0 : Int) ≤ (k2 : Int) := by omega
          have b4 : (k2 : Int) ≤ (k2 : Int) + 4 := by omega
          clear hk2 h7 k16 k17
          have c1 : wA.cell? ⟨R, 1, none⟩ = some (.int .i64 (q : Nat)) := H6.out.1.c1
          have f1 : wA.frozen? ⟨R, 1, none⟩ = false := H6.out.1.fz 1
          obtain ⟨wB, hwB⟩ : ∃ wB, wB = wA.setCell ⟨R, 1, none⟩ (.int .i64 (X.p : Nat)) := ⟨_, rfl⟩
          have HB : Hid (RG w wB R G s X) := by
            have h := H6.out.rd (q := X.p) HNE.out (B := wB) ⟨by rw [hwB]; exact H6.out.1.set X.p, by rw [hwB]; exact (Ch.refl (fun k => k = R) wA).set ⟨R, 1, none⟩ _ rfl⟩
            exact h
          have HWB : Hid (wA.setCell ⟨R, 1, none⟩ (.int .i64 (X.p : Nat)) = wB) := hwB.symm
          clear hwB
          go_upto_region 10 with fail
          rw [HWB.out]
          have k16 : wB.cell? ⟨G, 16, none⟩ = some (.int .i64 (n : Nat)) := by rw [HNB.out.1]; exact HB.out.2.1.n
          go_upto_region 11 with fail
          refine MixJ.start (fun A => RN w A R G s X.p n) 9 (by kernel_rfl) ?_
          obtain ⟨wC, hwA⟩ : ∃ W_, W_ = wB.drew := ⟨_, rfl⟩
          have bdr : Below wB.heap.size wB wC := by rw [hwA]; exact (Below.refl _ _).drew
          have hS : RN w wC R G s X.p n := by rw [HNB.out.1]; exact (HB.out.no (Ch.ofBelow bdr)).rn
          have HGC : Hid (GsAt wC G X) := HB.out.2.1.below bdr
          rw [← hwA]
          clear hwA bdr
          refine MixJ.takes [true, true, true, false, true] 6 (by kernel_rfl) (by kernel_rfl) (by decide) (by kernel_rfl) (by kernel_rfl) hS (fun K hK => ?_)
          simp only [Mix.pick]
          repeat (go_big_quiet_step (fail))
          refine wpQuiet_nil (hK _ ?_)
          clear hK K
          refine MixJ.take 5 3 _ (.int .i64 (n : Nat)) rfl (by kernel_rfl) (by kernel_rfl) (by kernel_rfl) (by kernel_rfl) (by kernel_rfl) (by kernel_rfl) (yields_int (.tmp 63) rfl ⟨G, 16, none⟩ (.int .i64 (n : Nat)) rfl rfl (fun A hA => hA.2.1)) hS (fun a' ha => ?_)
          simp only [Act.put, List.setIfInBounds_toArray, List.set_cons_succ, List.set_cons_zero] at ha
          subst ha
          refine MixJ.many [5] 4 (by kernel_rfl) (by decide) (by kernel_rfl) ?_
          intro i_ hi_
          simp only [List.mem_cons, List.not_mem_nil, or_false] at hi_
          subst hi_
          refine ⟨_, rfl, fun K hK => ?_⟩
          go_wp2_with fail
          refine Calls.mono (widthP_any true wC) ?_
          rintro e wz ⟨rfl, rfl⟩
          rw [if_pos rfl]
          go_wp2_with fail
          refine ⟨rfl, hK _ _ (fun _ => hS) ?_⟩
          clear hK K
          refine MixJ.takes [false, false, false, false, false, false, true] 3 (by kernel_rfl) (by kernel_rfl) (by decide) (by kernel_rfl) (by kernel_rfl) hS (fun K hK => ?_)
          simp only [Mix.pick]
          repeat (go_big_quiet_step (fail))
          refine wpQuiet_nil (hK _ ?_)
          clear hK K
          refine MixJ.many [7] 2 (by kernel_rfl) (by decide) (by kernel_rfl) ?_
          intro i_ hi_
          simp only [List.mem_cons, List.not_mem_nil, or_false] at hi_
          subst hi_
          refine ⟨_, rfl, fun K hK => ?_⟩
          go_wp2_with fail
          refine ⟨rfl, hK _ _ (fun _ => hS) ?_⟩
          clear hK K
          refine MixJ.many [8] 1 (by kernel_rfl) (by decide) (by kernel_rfl) ?_
          intro i_ hi_
          simp only [List.mem_cons, List.not_mem_nil, or_false] at hi_
          subst hi_
          refine ⟨_, rfl, fun K hK => ?_⟩
          go_wp2_with fail
          refine ⟨rfl, hK _ _ (fun _ => hS) ?_⟩
          clear hK K
          refine MixJ.many [9] 0 (by kernel_rfl) (by decide) (by kernel_rfl) ?_
          intro i_ hi_
          simp only [List.mem_cons, List.not_mem_nil, or_false] at hi_
          subst hi_
          refine ⟨_, rfl, fun K hK => ?_⟩
          have kc : wC.cell? ⟨G, 16, none⟩ = some (.int .i64 (n : Nat)) := hS.2.1
          have kf : wC.frozen? ⟨G, 16, none⟩ = false := HGC.out.fz 16
          go_wp2_with fail
          obtain ⟨wD, hwD⟩ : ∃ W_, W_ = wC.setCell ⟨G, 16, none⟩ (.int .i64 ((n : Int) + 2)) := ⟨_, rfl⟩
          have HGD : Hid (wD.heap[G]? = some (.cells ((gsC X).setIfInBounds 16 (.int .i64 (n + 2 : Nat))) 68 (0, 0)) ∧ RdAt wD R s X.p ∧ Ch (fun k => k = R ∨ k = G) w wD) := by
            refine ⟨?_, ?_, ?_⟩
            · rw [hwD]
              exact heap_setCell_same _ G 16 _ _ _ HGC.out
            · rw [hwD]
              exact hS.1.ch ((Ch.refl (fun k => k = G) wC).set ⟨G, 16, none⟩ _ rfl) (fun e => HNE.out e.symm)
            · rw [hwD]
              exact hS.2.2.set ⟨G, 16, none⟩ _ (.inr rfl)
          rw [← hwD]
          clear hwD kc kf
          refine ⟨rfl, hK _ _ (fun q => absurd rfl q) ?_⟩
          clear hK K
          refine MixJ.done (by kernel_rfl) ?_
          clear hS k16 c1 f1
          have al : Tryz.prog.arrayLen 26 = 16 := by kernel_rfl
          go_wp2_with fail
          refine (four_any R G k2 (16 - k2) s X.p _ 68 wD HGD.out.2.1 HGD.out.1 HNE.out (fun j hj => ⟨_, by rw [Array.getElem?_setIfInBounds_ne (by have := HMN.out.2; have := HK2.out; omega)]; exact gsC_byte X (k2 + j) (by have := HMN.out.2; have := HK2.out; omega)⟩) HOK.out.p HP.out).mono ?_
          rintro e w9 ⟨hf, hch⟩
          have HCH : Hid (Ch (fun k => k = R ∨ k = G) w w9) := HGD.out.2.2.trans hch (fun _ _ h => h)
          clear hch al
          cases hd : dtd s 4 X.p [] with
          | inr er =>
            unfold FrR at hf
            rw [hd] at hf
            obtain ⟨rfl, hrd⟩ := hf
            obtain ⟨e1, e2⟩ := er
            have HZ : Hid (grp s X = (X.fail e1 e2, true) ∧ e1 ≠ 0 ∧ RdAt w9 R s e2) := ⟨grp_tailE HQ.out.1 HQN.out HT.out HMN.out.1 hd, (dtd_er 4 X.p [] hd).1, hrd⟩
            clear hd hrd
            go_wp2
            (try simp only [Exit.inBlock, Exit.then])
            go_ret
            exact GrR.er HZ.out.1 HX0.out HZ.out.2.1 rfl HZ.out.2.2 HCH.out
          | inl l =>
            unfold FrR at hf
            rw [hd] at hf
            obtain ⟨rfl, hrd, hP⟩ := hf
            have HZ : Hid (grp s X = ({ X with g := X.g ++ [256 * l.getD 0 0 + l.getD 1 0, 256 * l.getD 2 0 + l.getD 3 0], p := s.size }, true) ∧ RdAt w9 R s s.size ∧ GsAt w9 G { X with g := X.g ++ [256 * l.getD 0 0 + l.getD 1 0, 256 * l.getD 2 0 + l.getD 3 0], p := s.size }) := by
              refine ⟨grp_tail HQ.out.1 HQN.out HT.out HMN.out.1 hd, hrd, ?_⟩
              obtain ⟨t, ht, ht4, _⟩ := dtd_ok 4 X.p [] hd
              rw [HK2.out, gsC_tail X n s.size HNB.out.1.symm (by have := HMN.out.2; omega) l (by rw [ht]; simpa using ht4) (dtd_at hd)] at hP
              exact hP
            clear hd hrd hP
            go_wp2
            (try simp only [Exit.inBlock, Exit.then])
            go_ret
            exact GrR.ok HZ.out.1 HX0.out rfl ⟨HZ.out.2.1, HZ.out.2.2, HCH.out⟩
      · have p1 : decide ((0 : Int) < (n : Int)) = false := decide_eq_false (by omega)
        have p2 : decide (0 < n) = false := decide_eq_false h0
        clear h0
        cases b with
        | true =>
          have HT : Hid (tlB s X q = true) := by show _ = _; rw [HTL.out, p2]; rfl
          go_upto_region 6 with fail
          obtain ⟨m, hm⟩ : ∃ m, m = rmN X := ⟨_, rfl⟩
          have HM : Hid (m = rmN X) := hm
          have HM8 : Hid (m ≤ 8) := by show _ ≤ _; rw [hm]; exact rmN_le X
          clear hm
          have x6 : IntKind.i64.wrap ((n : Int) + 2) = (n : Int) + 2 := i64_s _ (by omega) (by have := HN8.out; omega)
          refine MixH.start (fun A => RG w A R G s { X with p := q }) (by kernel_rfl) ?_
          obtain ⟨wA, hwA⟩ : ∃ W_, W_ = w2.drew := ⟨_, rfl⟩
          have bdr : Below w2.heap.size w2 wA := by rw [hwA]; exact (Below.refl _ _).drew
          have hS : RG w wA R G s { X with p := q } := H2.out.no (Ch.ofBelow bdr)
          rw [← hwA]
          clear hwA bdr
          refine MixH.takes [true, true, true, false, true, false, false, true] 5 (by kernel_rfl) (by kernel_rfl) (by decide) (by kernel_rfl) hS (fun K hK => ?_)
          simp only [Mix.pick]
          repeat (go_big_quiet_step (fail))
          refine wpQuiet_nil (hK _ ?_)
          clear hK K
          refine MixH.take 4 3 _ (.int .i64 (n : Nat)) rfl (by kernel_rfl) (by kernel_rfl) (by kernel_rfl) (by kernel_rfl) (yields_int (.tmp 40) rfl ⟨G, 16, none⟩ (.int .i64 (n : Nat)) rfl rfl (fun A hA => by rw [HNB.out.1]; exact hA.2.1.n)) hS (fun a' ha => ?_)
          simp only [Act.put, List.setIfInBounds_toArray, List.set_cons_succ, List.set_cons_zero] at ha
          subst ha
          refine MixH.one [false, false, false, false, false, true] 3 5 _ rfl rfl (by kernel_rfl) (by kernel_rfl) (fun K hK => ?_)
          simp only [Mix.pick]
          go_wp2_with fail
          refine Calls.mono (widthP_any true wA) ?_
          rintro e wz ⟨rfl, rfl⟩
          rw [if_pos rfl]
          go_wp2_with fail
          refine ⟨rfl, hK _ _ hS ?_⟩
          clear hK K
          refine MixH.takes [false, false, false, false, false, false, true] 2 (by kernel_rfl) (by kernel_rfl) (by decide) (by kernel_rfl) hS (fun K hK => ?_)
          simp only [Mix.pick]
          repeat (go_big_quiet_step (fail))
          refine wpQuiet_nil (hK _ ?_)
          clear hK K
          refine MixH.one [false, false, false, false, false, false, false, false, true] 1 8 _ rfl rfl (by kernel_rfl) (by kernel_rfl) (fun K hK => ?_)
          simp only [Mix.pick]
          go_wp2_with fail
          refine Calls.mono (most_any G { X with p := q } wA hS.2.1) ?_
          rintro e wz ⟨rfl, rfl⟩
          rw [show rmN { X with p := q } = m from HM.out.symm]
          go_wp2_with fail
          refine ⟨rfl, hK _ _ hS ?_⟩
          clear hK K
          refine MixH.takes [false, false, false, false, false, false, false, false, false, true] 0 (by kernel_rfl) (by kernel_rfl) (by decide) (by kernel_rfl) hS (fun K hK => ?_)
          simp only [Mix.pick]
          repeat (go_big_quiet_step (fail))
          refine wpQuiet_nil (hK _ ?_)
          clear hK K
          refine MixH.done (by kernel_rfl) ?_
          have H6 : Hid (RG w wA R G s { X with p := q }) := hS
          clear hS
          by_cases hm : m < n + 2
          · have m1 : decide ((m : Int) < (n : Int) + 2) = true := decide_eq_true (by omega)
            have m2 : (m : Int) < (n : Int) + 2 := by omega
            have HZ : Hid (grp s X = (X.fail 44 X.p, true)) := grp_many HQ.out.1 HQN.out true HT.out (by rw [← HM.out, ← HNB.out.1]; exact hm)
            clear hm
            go_wp2_with fail
            refine (refuse_any R s q X.p 44 wA H6.out.1).mono ?_
            rintro e w3 ⟨rfl, k1, k2⟩
            have H7 : Hid (RdAt w3 R s X.p ∧ Ch (fun k => k = R ∨ k = G) w w3) := ⟨k1, H6.out.2.2.trans k2 (fun _ _ h => .inl h)⟩
            clear k1 k2
            go_wp2
            (try simp only [Exit.inBlock, Exit.then])
            go_ret
            exact GrR.er HZ.out HX0.out (by decide) rfl H7.out.1 H7.out.2
          · have m1 : decide ((m : Int) < (n : Int) + 2) = false := decide_eq_false (by omega)
            have m2 : ¬ (m : Int) < (n : Int) + 2 := by omega
            have HMN : Hid (¬ rmN X < X.g.length + 2 ∧ n + 2 ≤ 8) := ⟨by rw [← HM.out, ← HNB.out.1]; exact hm, by have := HM8.out; omega⟩
            clear hm
            obtain ⟨k2, hk2⟩ : ∃ k2, k2 = 2 * n := ⟨_, rfl⟩
            have HK2 : Hid (k2 = 2 * n) := hk2
            have h7 := HMN.out.2
            have x7 : IntKind.i64.wrap (2 * (n : Int)) = (k2 : Int) := by rw [i64_s _ (by omega) (by omega)]; omega
            have x8 : IntKind.i64.wrap ((k2 : Int) + 4) = (k2 : Int) + 4 := i64_s _ (by omega) (by omega)
            have b1 : (k2 : Int) + 4 ≤ 16 := by omega
            have b3 : (0 : Int) ≤ (k2 : Int) := by omega
            have b4 : (k2 : Int) ≤ (k2 : Int) + 4 := by omega
            clear hk2 h7 k16 k17
            have c1 : wA.cell? ⟨R, 1, none⟩ = some (.int .i64 (q : Nat)) := H6.out.1.c1
            have f1 : wA.frozen? ⟨R, 1, none⟩ = false := H6.out.1.fz 1
            obtain ⟨wB, hwB⟩ : ∃ wB, wB = wA.setCell ⟨R, 1, none⟩ (.int .i64 (X.p : Nat)) := ⟨_, rfl⟩
            have HB : Hid (RG w wB R G s X) := by
              have h := H6.out.rd (q := X.p) HNE.out (B := wB) ⟨by rw [hwB]; exact H6.out.1.set X.p, by rw [hwB]; exact (Ch.refl (fun k => k = R) wA).set ⟨R, 1, none⟩ _ rfl⟩
              exact h
            have HWB : Hid (wA.setCell ⟨R, 1, none⟩ (.int .i64 (X.p : Nat)) = wB) := hwB.symm
            clear hwB
            go_upto_region 10 with fail
            rw [HWB.out]
            have k16 : wB.cell? ⟨G, 16, none⟩ = some (.int .i64 (n : Nat)) := by rw [HNB.out.1]; exact HB.out.2.1.n
            go_upto_region 11 with fail
            refine MixJ.start (fun A => RN w A R G s X.p n) 9 (by kernel_rfl) ?_
            obtain ⟨wC, hwA⟩ : ∃ W_, W_ = wB.drew := ⟨_, rfl⟩
            have bdr : Below wB.heap.size wB wC := by rw [hwA]; exact (Below.refl _ _).drew
            have hS : RN w wC R G s X.p n := by rw [HNB.out.1]; exact (HB.out.no (Ch.ofBelow bdr)).rn
            have HGC : Hid (GsAt wC G X) := HB.out.2.1.below bdr
            rw [← hwA]
            clear hwA bdr
            refine MixJ.takes [true, true, true, false, true] 6 (by kernel_rfl) (by kernel_rfl) (by decide) (by kernel_rfl) (by kernel_rfl) hS (fun K hK => ?_)
            simp only [Mix.pick]
            repeat (go_big_quiet_step (fail))
            refine wpQuiet_nil (hK _ ?_)
            clear hK K
            refine MixJ.take 5 3 _ (.int .i64 (n : Nat)) rfl (by kernel_rfl) (by kernel_rfl) (by kernel_rfl) (by kernel_rfl) (by kernel_rfl) (by kernel_rfl) (yields_int (.tmp 63) rfl ⟨G, 16, none⟩ (.int .i64 (n : Nat)) rfl rfl (fun A hA => hA.2.1)) hS (fun a' ha => ?_)
            simp only [Act.put, List.setIfInBounds_toArray, List.set_cons_succ, List.set_cons_zero] at ha
            subst ha
            refine MixJ.many [5] 4 (by kernel_rfl) (by decide) (by kernel_rfl) ?_
            intro i_ hi_
            simp only [List.mem_cons, List.not_mem_nil, or_false] at hi_
            subst hi_
            refine ⟨_, rfl, fun K hK => ?_⟩
            go_wp2_with fail
            refine Calls.mono (widthP_any true wC) ?_
            rintro e wz ⟨rfl, rfl⟩
            rw [if_pos rfl]
            go_wp2_with fail
            refine ⟨rfl, hK _ _ (fun _ => hS) ?_⟩
            clear hK K
            refine MixJ.takes [false, false, false, false, false, false, true] 3 (by kernel_rfl) (by kernel_rfl) (by decide) (by kernel_rfl) (by kernel_rfl) hS (fun K hK => ?_)
            simp only [Mix.pick]
            repeat (go_big_quiet_step (fail))
            refine wpQuiet_nil (hK _ ?_)
            clear hK K
            refine MixJ.many [7] 2 (by kernel_rfl) (by decide) (by kernel_rfl) ?_
            intro i_ hi_
            simp only [List.mem_cons, List.not_mem_nil, or_false] at hi_
            subst hi_
            refine ⟨_, rfl, fun K hK => ?_⟩
            go_wp2_with fail
            refine ⟨rfl, hK _ _ (fun _ => hS) ?_⟩
            clear hK K
            refine MixJ.many [8] 1 (by kernel_rfl) (by decide) (by kernel_rfl) ?_
            intro i_ hi_
            simp only [List.mem_cons, List.not_mem_nil, or_false] at hi_
            subst hi_
            refine ⟨_, rfl, fun K hK => ?_⟩
            go_wp2_with fail
            refine ⟨rfl, hK _ _ (fun _ => hS) ?_⟩
            clear hK K
            refine MixJ.many [9] 0 (by kernel_rfl) (by decide) (by kernel_rfl) ?_
            intro i_ hi_
            simp only [List.mem_cons, List.not_mem_nil, or_false] at hi_
            subst hi_
            refine ⟨_, rfl, fun K hK => ?_⟩
            have kc : wC.cell? ⟨G, 16, none⟩ = some (.int .i64 (n : Nat)) := hS.2.1
            have kf : wC.frozen? ⟨G, 16, none⟩ = false := HGC.out.fz 16
            go_wp2_with fail
            obtain ⟨wD, hwD⟩ : ∃ W_, W_ = wC.setCell ⟨G, 16, none⟩ (.int .i64 ((n : Int) + 2)) := ⟨_, rfl⟩
            have HGD : Hid (wD.heap[G]? = some (.cells ((gsC X).setIfInBounds 16 (.int .i64 (n + 2 : Nat))) 68 (0, 0)) ∧ RdAt wD R s X.p ∧ Ch (fun k => k = R ∨ k = G) w wD) := by
              refine ⟨?_, ?_, ?_⟩
              · rw [hwD]
                exact heap_setCell_same _ G 16 _ _ _ HGC.out
              · rw [hwD]
                exact hS.1.ch ((Ch.refl (fun k => k = G) wC).set ⟨G, 16, none⟩ _ rfl) (fun e => HNE.out e.symm)
              · rw [hwD]
                exact hS.2.2.set ⟨G, 16, none⟩ _ (.inr rfl)
            rw [← hwD]
            clear hwD kc kf
            refine ⟨rfl, hK _ _ (fun q => absurd rfl q) ?_⟩
            clear hK K
            refine MixJ.done (by kernel_rfl) ?_
            clear hS k16 c1 f1
            have al : Tryz.prog.arrayLen 26 = 16 := by kernel_rfl
            go_wp2_with fail
            refine (four_any R G k2 (16 - k2) s X.p _ 68 wD HGD.out.2.1 HGD.out.1 HNE.out (fun j hj => ⟨_, by rw [Array.getElem?_setIfInBounds_ne (by have := HMN.out.2; have := HK2.out; omega)]; exact gsC_byte X (k2 + j) (by have := HMN.out.2; have := HK2.out; omega)⟩) HOK.out.p HP.out).mono ?_
            rintro e w9 ⟨hf, hch⟩
            have HCH : Hid (Ch (fun k => k = R ∨ k = G) w w9) := HGD.out.2.2.trans hch (fun _ _ h => h)
            clear hch al
            cases hd : dtd s 4 X.p [] with
            | inr er =>
              unfold FrR at hf
              rw [hd] at hf
              obtain ⟨rfl, hrd⟩ := hf
              obtain ⟨e1, e2⟩ := er
              have HZ : Hid (grp s X = (X.fail e1 e2, true) ∧ e1 ≠ 0 ∧ RdAt w9 R s e2) := ⟨grp_tailE HQ.out.1 HQN.out HT.out HMN.out.1 hd, (dtd_er 4 X.p [] hd).1, hrd⟩
              clear hd hrd
              go_wp2
              (try simp only [Exit.inBlock, Exit.then])
              go_ret
              exact GrR.er HZ.out.1 HX0.out HZ.out.2.1 rfl HZ.out.2.2 HCH.out
            | inl l =>
              unfold FrR at hf
              rw [hd] at hf
              obtain ⟨rfl, hrd, hP⟩ := hf
              have HZ : Hid (grp s X = ({ X with g := X.g ++ [256 * l.getD 0 0 + l.getD 1 0, 256 * l.getD 2 0 + l.getD 3 0], p := s.size }, true) ∧ RdAt w9 R s s.size ∧ GsAt w9 G { X with g := X.g ++ [256 * l.getD 0 0 + l.getD 1 0, 256 * l.getD 2 0 + l.getD 3 0], p := s.size }) := by
                refine ⟨grp_tail HQ.out.1 HQN.out HT.out HMN.out.1 hd, hrd, ?_⟩
                obtain ⟨t, ht, ht4, _⟩ := dtd_ok 4 X.p [] hd
                rw [HK2.out, gsC_tail X n s.size HNB.out.1.symm (by have := HMN.out.2; omega) l (by rw [ht]; simpa using ht4) (dtd_at hd)] at hP
                exact hP
              clear hd hrd hP
              go_wp2
              (try simp only [Exit.inBlock, Exit.then])
              go_ret
              exact GrR.ok HZ.out.1 HX0.out rfl ⟨HZ.out.2.1, HZ.out.2.2, HCH.out⟩
        | false =>
          have HT : Hid (tlB s X q = false) := by show _ = _; rw [HTL.out, p2]; rfl
          go_upto_region 6 with fail
          obtain ⟨m, hm⟩ : ∃ m, m = rmN X := ⟨_, rfl⟩
          have HM : Hid (m = rmN X) := hm
          have HM8 : Hid (m ≤ 8) := by show _ ≤ _; rw [hm]; exact rmN_le X
          clear hm
          have x6 : IntKind.i64.wrap ((n : Int) + 1) = (n : Int) + 1 := i64_s _ (by omega) (by have := HN8.out; omega)
          refine MixH.start (fun A => RG w A R G s { X with p := q }) (by kernel_rfl) ?_
          obtain ⟨wA, hwA⟩ : ∃ W_, W_ = w2.drew := ⟨_, rfl⟩
          have bdr : Below w2.heap.size w2 wA := by rw [hwA]; exact (Below.refl _ _).drew
          have hS : RG w wA R G s { X with p := q } := H2.out.no (Ch.ofBelow bdr)
          rw [← hwA]
          clear hwA bdr
          refine MixH.takes [true, true, true, false, true, false, false, true] 5 (by kernel_rfl) (by kernel_rfl) (by decide) (by kernel_rfl) hS (fun K hK => ?_)
          simp only [Mix.pick]
          repeat (go_big_quiet_step (fail))
          refine wpQuiet_nil (hK _ ?_)
          clear hK K
          refine MixH.take 4 3 _ (.int .i64 (n : Nat)) rfl (by kernel_rfl) (by kernel_rfl) (by kernel_rfl) (by kernel_rfl) (yields_int (.tmp 40) rfl ⟨G, 16, none⟩ (.int .i64 (n : Nat)) rfl rfl (fun A hA => by rw [HNB.out.1]; exact hA.2.1.n)) hS (fun a' ha => ?_)
          simp only [Act.put, List.setIfInBounds_toArray, List.set_cons_succ, List.set_cons_zero] at ha
          subst ha
          refine MixH.one [false, false, false, false, false, true] 3 5 _ rfl rfl (by kernel_rfl) (by kernel_rfl) (fun K hK => ?_)
          simp only [Mix.pick]
          go_wp2_with fail
          refine Calls.mono (widthP_any false wA) ?_
          rintro e wz ⟨rfl, rfl⟩
          rw [if_neg (by decide)]
          go_wp2_with fail
          refine ⟨rfl, hK _ _ hS ?_⟩
          clear hK K
          refine MixH.takes [false, false, false, false, false, false, true] 2 (by kernel_rfl) (by kernel_rfl) (by decide) (by kernel_rfl) hS (fun K hK => ?_)
          simp only [Mix.pick]
          repeat (go_big_quiet_step (fail))
          refine wpQuiet_nil (hK _ ?_)
          clear hK K
          refine MixH.one [false, false, false, false, false, false, false, false, true] 1 8 _ rfl rfl (by kernel_rfl) (by kernel_rfl) (fun K hK => ?_)
          simp only [Mix.pick]
          go_wp2_with fail
          refine Calls.mono (most_any G { X with p := q } wA hS.2.1) ?_
          rintro e wz ⟨rfl, rfl⟩
          rw [show rmN { X with p := q } = m from HM.out.symm]
          go_wp2_with fail
          refine ⟨rfl, hK _ _ hS ?_⟩
          clear hK K
          refine MixH.takes [false, false, false, false, false, false, false, false, false, true] 0 (by kernel_rfl) (by kernel_rfl) (by decide) (by kernel_rfl) hS (fun K hK => ?_)
          simp only [Mix.pick]
          repeat (go_big_quiet_step (fail))
          refine wpQuiet_nil (hK _ ?_)
          clear hK K
          refine MixH.done (by kernel_rfl) ?_
          have H6 : Hid (RG w wA R G s { X with p := q }) := hS
          clear hS
          by_cases hm : m < n + 1
          · have m1 : decide ((m : Int) < (n : Int) + 1) = true := decide_eq_true (by omega)
            have m2 : (m : Int) < (n : Int) + 1 := by omega
            have HZ : Hid (grp s X = (X.fail 44 X.p, true)) := grp_many HQ.out.1 HQN.out false HT.out (by rw [← HM.out, ← HNB.out.1]; exact hm)
            clear hm
            go_wp2_with fail
            refine (refuse_any R s q X.p 44 wA H6.out.1).mono ?_
            rintro e w3 ⟨rfl, k1, k2⟩
            have H7 : Hid (RdAt w3 R s X.p ∧ Ch (fun k => k = R ∨ k = G) w w3) := ⟨k1, H6.out.2.2.trans k2 (fun _ _ h => .inl h)⟩
            clear k1 k2
            go_wp2
            (try simp only [Exit.inBlock, Exit.then])
            go_ret
            exact GrR.er HZ.out HX0.out (by decide) rfl H7.out.1 H7.out.2
          · have m1 : decide ((m : Int) < (n : Int) + 1) = false := decide_eq_false (by omega)
            have m2 : ¬ (m : Int) < (n : Int) + 1 := by omega
            have HMN : Hid (¬ rmN X < X.g.length + 1 ∧ n + 1 ≤ 8) := ⟨by rw [← HM.out, ← HNB.out.1]; exact hm, by have := HM8.out; omega⟩
            clear hm
            by_cases h4 : 4 < d.size
            · have p3 : decide ((4 : Int) < (d.size : Int)) = true := decide_eq_true (by omega)
              have p4 : decide (4 < d.size) = true := decide_eq_true h4
              have HZ : Hid (grp s X = (X.fail 43 X.p, true)) := grp_long HQ.out.1 HQN.out HT.out HMN.out.1 (by rw [← HD.out.2]; exact h4)
              clear h4
              go_wp2_with fail
              refine (refuse_any R s q X.p 43 wA H6.out.1).mono ?_
              rintro e w3 ⟨rfl, k1, k2⟩
              have H7 : Hid (RdAt w3 R s X.p ∧ Ch (fun k => k = R ∨ k = G) w w3) := ⟨k1, H6.out.2.2.trans k2 (fun _ _ h => .inl h)⟩
              clear k1 k2
              go_wp2
              (try simp only [Exit.inBlock, Exit.then])
              go_ret
              exact GrR.er HZ.out HX0.out (by decide) rfl H7.out.1 H7.out.2
            · have p3 : decide ((4 : Int) < (d.size : Int)) = false := decide_eq_false (by omega)
              have p4 : decide (4 < d.size) = false := decide_eq_false h4
              obtain ⟨v, hv⟩ : ∃ v, vlN d 16 d.size = v := ⟨_, rfl⟩
              have HV : Hid (vlN d 16 d.size = v ∧ v = hxN s X.p (q - X.p) ∧ d.size ≤ 4) := ⟨hv, by rw [← hv, HD.out.2, HD.out.1]; exact vlN_hx HQB.out.2 HHX.out _ (Nat.le_refl _), by omega⟩
              have hv6 : v < 65536 := by rw [HV.out.2.1]; exact hxN_small (by rw [← HD.out.2]; exact HV.out.2.2)
              have HV6 : Hid (v < 65536) := hv6
              have HZ : Hid (grp s X = ({ X with g := X.g ++ [v], p := q }, q == s.size)) := by
                show _ = _
                rw [HV.out.2.1]
                exact grp_one HQ.out.1 HQN.out HT.out HMN.out.1 (by rw [← HD.out.2]; exact h4)
              obtain ⟨k2, hk2⟩ : ∃ k2, k2 = 2 * n := ⟨_, rfl⟩
              have HK2 : Hid (k2 = 2 * n) := hk2
              have h7 := HMN.out.2
              have x7 : IntKind.i64.wrap (2 * (n : Int)) = (k2 : Int) := by rw [i64_s _ (by omega) (by omega)]; omega
              have x8 : IntKind.i64.wrap ((k2 : Int) + 1) = (k2 : Int) + 1 := i64_s _ (by omega) (by omega)
              have b1 : (k2 : Int) < 16 := by omega
              have b2 : (k2 : Int) + 1 < 16 := by omega
              have b3 : (0 : Int) ≤ (k2 : Int) := by omega
              have b4 : (0 : Int) ≤ (k2 : Int) + 1 := by omega
              clear h4 hv hv6 hk2 h7 k16 k17
              go_wp2_with fail
              refine (value_any d 16 wA HV.out.2.2 (by decide)).mono ?_
              rintro e wz ⟨rfl, rfl⟩
              rw [HV.out.1]
              go_upto_region 16 with fail
              refine MixH.start (fun A => RN w A R G s q n) (by kernel_rfl) ?_
              obtain ⟨wB, hwA⟩ : ∃ W_, W_ = wA.drew := ⟨_, rfl⟩
              have bdr : Below wA.heap.size wA wB := by rw [hwA]; exact (Below.refl _ _).drew
              have hS : RN w wB R G s q n := by rw [HNB.out.1]; exact (H6.out.no (Ch.ofBelow bdr)).rn
              have HG1 : Hid (GsAt wB G { X with p := q }) := H6.out.2.1.below bdr
              rw [← hwA]
              clear hwA bdr
              refine MixH.takes [true, true, true, true, false, false, true, true, true, true, false, false, false, true, true, true, true, true, true, true, false, false, true, true] 9 (by kernel_rfl) (by kernel_rfl) (by decide) (by kernel_rfl) hS (fun K hK => ?_)
              simp only [Mix.pick]
              repeat (go_big_quiet_step (fail))
              refine wpQuiet_nil (hK _ ?_)
              clear hK K
              refine MixH.take 8 4 _ (.int .i64 (n : Nat)) rfl (by kernel_rfl) (by kernel_rfl) (by kernel_rfl) (by kernel_rfl) (yields_int (.tmp 90) rfl ⟨G, 16, none⟩ (.int .i64 (n : Nat)) rfl rfl (fun A hA => hA.2.1)) hS (fun a' ha => ?_)
              simp only [Act.put, List.setIfInBounds_toArray, List.set_cons_succ, List.set_cons_zero] at ha
              subst ha
              refine MixH.takes [false, false, false, false, false, true] 7 (by kernel_rfl) (by kernel_rfl) (by decide) (by kernel_rfl) hS (fun K hK => ?_)
              simp only [Mix.pick]
              repeat (go_big_quiet_step (fail))
              refine wpQuiet_nil (hK _ ?_)
              clear hK K
              refine MixH.take 6 10 _ (.int .i64 (n : Nat)) rfl (by kernel_rfl) (by kernel_rfl) (by kernel_rfl) (by kernel_rfl) (yields_int (.tmp 96) rfl ⟨G, 16, none⟩ (.int .i64 (n : Nat)) rfl rfl (fun A hA => hA.2.1)) hS (fun a' ha => ?_)
              simp only [Act.put, List.setIfInBounds_toArray, List.set_cons_succ, List.set_cons_zero] at ha
              subst ha
              refine MixH.takes [false, false, false, false, false, false, false, false, false, false, false, true, true, false, false, false, false, false, false, false, true] 3 (by kernel_rfl) (by kernel_rfl) (by decide) (by kernel_rfl) hS (fun K hK => ?_)
              simp only [Mix.pick]
              repeat (go_big_quiet_step (fail))
              refine wpQuiet_nil (hK _ ?_)
              clear hK K
              refine MixH.one [false, false, false, false, false, false, false, false, false, false, false, false, false, false, false, false, false, false, false, false, false, true] 2 21 _ rfl rfl (by kernel_rfl) (by kernel_rfl) (fun K hK => ?_)
              simp only [Mix.pick]
              have kc : wB.cell? ⟨G, k2, none⟩ = some (.int .u8 (gb X.g k2 : Nat)) := (HG1.out.cell k2).trans (gsC_byte _ k2 (by omega))
              have kf : wB.frozen? ⟨G, k2, none⟩ = false := HG1.out.fz k2
              go_wp2_with fail
              obtain ⟨wC, hwC⟩ : ∃ W_, W_ = wB.setCell ⟨G, k2, none⟩ (.int .u8 ((v : Int) / 256 % 256)) := ⟨_, rfl⟩
              have HGC : Hid (wC.heap[G]? = some (.cells ((gsC X).setIfInBounds k2 (.int .u8 (v / 256 : Nat))) 68 (0, 0))) := by
                show _ = _
                rw [hwC, show ((v : Int) / 256 % 256) = ((v / 256 : Nat) : Int) by have := HV6.out; omega]
                exact heap_setCell_same _ G k2 _ _ _ HG1.out
              replace hS : RN w wC R G s q n := by rw [hwC]; exact hS.set HNE.out HG1.out k2 (by have := HK2.out; have := HMN.out.2; omega) _
              rw [← hwC]
              clear hwC kc kf
              refine ⟨rfl, hK _ _ hS ?_⟩
              clear hK K
              refine MixH.takes [false, false, false, false, false, false, false, false, false, false, false, false, false, false, false, false, false, false, false, false, false, false, false, false, true] 1 (by kernel_rfl) (by kernel_rfl) (by decide) (by kernel_rfl) hS (fun K hK => ?_)
              simp only [Mix.pick]
              repeat (go_big_quiet_step (fail))
              refine wpQuiet_nil (hK _ ?_)
              clear hK K
              refine MixH.one [false, false, false, false, false, false, false, false, false, false, false, false, false, false, false, false, false, false, false, false, false, false, false, false, false, true] 0 25 _ rfl rfl (by kernel_rfl) (by kernel_rfl) (fun K hK => ?_)
              simp only [Mix.pick]
              have kc : wC.cell? ⟨G, k2 + 1, none⟩ = some (.int .u8 (gb X.g (k2 + 1) : Nat)) := by
                rw [show wC.cell? ⟨G, k2 + 1, none⟩ = ((gsC X).setIfInBounds k2 (.int .u8 (v / 256 : Nat)))[k2 + 1]? by simp [World.cell?, HGC.out], Array.getElem?_setIfInBounds_ne (by omega)]
                exact gsC_byte _ (k2 + 1) (by omega)
              have kf : wC.frozen? ⟨G, k2 + 1, none⟩ = false := by simp [World.frozen?, HGC.out]
              go_wp2_with fail
              obtain ⟨wD, hwD⟩ : ∃ W_, W_ = wC.setCell ⟨G, k2 + 1, none⟩ (.int .u8 ((v : Int) % 256)) := ⟨_, rfl⟩
              have HGD : Hid (wD.heap[G]? = some (.cells (((gsC X).setIfInBounds k2 (.int .u8 (v / 256 : Nat))).setIfInBounds (k2 + 1) (.int .u8 (v % 256 : Nat))) 68 (0, 0))) := by
                show _ = _
                rw [hwD, show ((v : Int) % 256) = ((v % 256 : Nat) : Int) by omega]
                exact heap_setCell_same _ G (k2 + 1) _ _ _ HGC.out
              replace hS : RN w wD R G s q n := by rw [hwD]; exact hS.set HNE.out HGC.out (k2 + 1) (by have := HK2.out; have := HMN.out.2; omega) _
              rw [← hwD]
              clear hwD kc kf
              refine ⟨rfl, hK _ _ hS ?_⟩
              clear hK K
              refine MixH.done (by kernel_rfl) ?_
              have HS9 : Hid (RN w wD R G s q n) := hS
              have k16 : wD.cell? ⟨G, 16, none⟩ = some (.int .i64 (n : Nat)) := hS.2.1
              have f16 : wD.frozen? ⟨G, 16, none⟩ = false := by simp [World.frozen?, HGD.out]
              clear hS
              go_wp2
              (try simp only [Exit.inBlock, Exit.then])
              go_ret
              refine GrR.ok HZ.out HX0.out rfl ⟨?_, ?_, ?_⟩
              · exact HS9.out.1.ch ((Ch.refl (fun k => k = G) wD).set ⟨G, 16, none⟩ _ rfl) (fun e => HNE.out e.symm)
              · have h := heap_setCell_same wD G 16 _ _ (.int .i64 (n + 1 : Nat)) HGD.out
                rw [HK2.out, gsC_one X n v q HNB.out.1.symm (by have := HMN.out.2; omega)] at h
                exact h
              · exact HS9.out.2.2.set ⟨G, 16, none⟩ _ (.inr rfl)
end Go.Proofs.YteldiggaooeeeaaGreatDoor
namespace Go.Proofs.YteldiggaooeeeaaGreatDoor
open Go.RowKit

theorem fil_step (X : SX) (k i : Nat) : fil X (k + 1) i = if i / 2 = kI X k then gb X.g (2 * k + i % 2) else fil X k i := by
  show up1 (up1 (fil X k) (2 * kI X k) (X.g.getD k 0 / 256)) (2 * kI X k + 1) (X.g.getD k 0 % 256) i = _
  unfold up1 gb
  by_cases h1 : i = 2 * kI X k + 1
  · rw [if_pos h1, if_pos (by omega), show 2 * k + i % 2 = 2 * k + 1 by omega, if_neg (by omega), show (2 * k + 1) / 2 = k by omega]
  · rw [if_neg h1]
    by_cases h2 : i = 2 * kI X k
    · rw [if_pos h2, if_pos (by omega), show 2 * k + i % 2 = 2 * k by omega, if_pos (by omega), show 2 * k / 2 = k by omega]
    · rw [if_neg h2, if_neg (by omega)]
/-- the byte at i: ahead of the gap, behind it, or in it -/
def adr (X : SX) (k i : Nat) : Nat := if i / 2 < k ∧ ¬ (0 ≤ X.gap ∧ X.gap ≤ (i / 2 : Nat)) then gb X.g i else if 0 ≤ X.gap ∧ X.gap + ((8 - X.g.length : Nat) : Int) ≤ (i / 2 : Nat) ∧ i / 2 < k + (8 - X.g.length) then gb X.g (i - 2 * (8 - X.g.length)) else 0
theorem fil_adr {X : SX} (hg : X.gap ≤ (X.g.length : Nat)) : ∀ k, k ≤ X.g.length → ∀ i, fil X k i = adr X k i
  | 0, _, i => by
    show 0 = _
    unfold adr
    rw [if_neg (by omega), if_neg (by omega)]
  | k + 1, hk, i => by
    rw [fil_step, fil_adr hg k (by omega) i]
    by_cases hc : 0 ≤ X.gap ∧ X.gap ≤ (k : Int)
    · have hK : kI X k = 8 - X.g.length + k := by unfold kI; rw [if_pos (by simp [hc])]
      rw [hK]
      by_cases h1 : i / 2 = 8 - X.g.length + k
      · rw [if_pos h1]
        unfold adr
        rw [if_neg (by omega), if_pos (by omega), show i - 2 * (8 - X.g.length) = 2 * k + i % 2 by omega]
      · rw [if_neg h1]
        have e1 : (i / 2 < k + 1 ∧ ¬ (0 ≤ X.gap ∧ X.gap ≤ (i / 2 : Nat))) ↔ (i / 2 < k ∧ ¬ (0 ≤ X.gap ∧ X.gap ≤ (i / 2 : Nat))) := by omega
        have e2 : (0 ≤ X.gap ∧ X.gap + ((8 - X.g.length : Nat) : Int) ≤ (i / 2 : Nat) ∧ i / 2 < k + 1 + (8 - X.g.length)) ↔ (0 ≤ X.gap ∧ X.gap + ((8 - X.g.length : Nat) : Int) ≤ (i / 2 : Nat) ∧ i / 2 < k + (8 - X.g.length)) := by omega
        unfold adr
        simp only [e1, e2]
    · have hK : kI X k = k := by unfold kI; rw [if_neg (by simp only [Bool.and_eq_true, decide_eq_true_eq]; exact hc)]
      rw [hK]
      by_cases h1 : i / 2 = k
      · rw [if_pos h1]
        unfold adr
        rw [if_pos (by omega), show 2 * k + i % 2 = i by omega]
      · rw [if_neg h1]
        have e1 : (i / 2 < k + 1 ∧ ¬ (0 ≤ X.gap ∧ X.gap ≤ (i / 2 : Nat))) ↔ (i / 2 < k ∧ ¬ (0 ≤ X.gap ∧ X.gap ≤ (i / 2 : Nat))) := by omega
        have e2 : (0 ≤ X.gap ∧ X.gap + ((8 - X.g.length : Nat) : Int) ≤ (i / 2 : Nat) ∧ i / 2 < k + 1 + (8 - X.g.length)) ↔ (0 ≤ X.gap ∧ X.gap + ((8 - X.g.length : Nat) : Int) ≤ (i / 2 : Nat) ∧ i / 2 < k + (8 - X.g.length)) := by omega
        unfold adr
        simp only [e1, e2]
/-- the :: stands no further on than the groups go, and stands for one at least -/
def SxGp (X : SX) : Prop := X.gap ≤ (X.g.length : Nat) ∧ (0 ≤ X.gap → X.g.length ≤ 7)
theorem sx0_gp (s : ByteArray) : SxGp (sx0 s).1 := by
  unfold sx0 SxGp
  split
  · simp
  · simp
theorem SX.fail_gp {X : SX} (h : SxGp X) (e a : Nat) : SxGp (X.fail e a) := by
  unfold SX.fail
  split <;> exact h
theorem grp_gp {s : ByteArray} {X : SX} (h : SxGp X) : SxGp (grp s X).1 := by
  have hr : 0 ≤ X.gap → rmN X = 7 := fun h => by unfold rmN; rw [if_pos (by simp [h])]
  have hA : ∀ (l : List Nat) (q : Nat), ¬ rmN X < X.g.length + l.length → SxGp { X with g := X.g ++ l, p := q } := fun l q hl => by
    unfold SxGp at h ⊢
    refine ⟨by simp; omega, fun h0 => ?_⟩
    have := hr h0
    show (X.g ++ l).length ≤ 7
    rw [List.length_append]
    omega
  unfold grp grpq
  obtain ⟨q, hq⟩ : ∃ q, q = scP s hxB X.p := ⟨_, rfl⟩
  rw [← hq]
  cases c1 : q == X.p with
  | true => exact SX.fail_gp h _ _
  | false =>
    cases c2 : decide (rmN X < X.g.length + (if tlB s X q then 2 else 1)) with
    | true => exact SX.fail_gp h _ _
    | false =>
      rw [decide_eq_false_iff_not] at c2
      cases c3 : tlB s X q with
      | true =>
        rw [c3] at c2
        cases hd : dtd s 4 X.p [] with
        | inr e => exact SX.fail_gp h _ _
        | inl l => exact hA _ _ c2
      | false =>
        rw [c3] at c2
        cases c4 : decide (4 < q - X.p) with
        | true => exact SX.fail_gp h _ _
        | false => exact hA _ _ c2
theorem btw_gp {s : ByteArray} {X : SX} (hl : X.g.length ≤ 8) (h : SxGp X) : SxGp (btw s X).1 := by
  unfold btw
  split
  · split
    · exact SX.fail_gp h _ _
    · rename_i h2
      simp at h2
      unfold SxGp
      refine ⟨by simp, fun _ => ?_⟩
      show X.g.length ≤ 7
      omega
  · split
    · exact h
    · exact SX.fail_gp h _ _
theorem rnd_gp {s : ByteArray} {X : SX} (ho : SxOk s X) (h : SxGp X) : SxGp (rnd s X).1 := by
  unfold rnd
  split
  · exact btw_gp (grp_ok' ho).l (grp_gp h)
  · exact grp_gp h
theorem splice_get {L cs : List Value} {off : Nat} (h : off + cs.length ≤ L.length) (i : Nat) : (splice L off cs)[i]? = if off ≤ i ∧ i < off + cs.length then cs[i - off]? else L[i]? := by
  unfold splice
  by_cases h1 : i < off
  · rw [if_neg (by omega), List.getElem?_append_left (by rw [List.length_take]; omega), List.getElem?_take, if_pos h1]
  · rw [List.getElem?_append_right (by rw [List.length_take]; omega), List.length_take, show min off L.length = off by omega]
    by_cases h2 : i < off + cs.length
    · rw [if_pos (by omega), List.getElem?_append_left (by omega)]
    · rw [if_neg (by omega), List.getElem?_append_right (by omega), List.getElem?_drop]
      congr 1
      omega
def cAh (X : SX) (a : Nat) : List Value := (List.range (2 * a)).map fun i => .int .u8 (gb X.g i : Nat)
def cBe (X : SX) (a n : Nat) : List Value := (List.range (2 * n - 2 * a)).map fun i => .int .u8 (gb X.g (2 * a + i) : Nat)
theorem arL (x : Nat → Nat) : (arCells x).toList = (List.range 16).map fun i => Value.int .u8 (x i : Nat) := rfl
theorem adr_cells {X : SX} {a n : Nat} (hn : X.g.length = n) (ha : X.gap = (a : Int)) (h1 : a ≤ n) (h7 : n ≤ 7) : splice (splice (arCells (fun _ => 0)).toList 0 (cAh X a)) (16 - (2 * n - 2 * a)) (cBe X a n) = (arCells (adr X n)).toList := by
  have l1 : (cAh X a).length = 2 * a := by simp [cAh]
  have l2 : (cBe X a n).length = 2 * n - 2 * a := by simp [cBe]
  have l0 : (arCells (fun _ => 0)).toList.length = 16 := rfl
  have l3 : (splice (arCells (fun _ => 0)).toList 0 (cAh X a)).length = 16 := by rw [length_splice _ _ _ (by rw [l1, l0]; omega), l0]
  refine List.ext_getElem? fun i => ?_
  rw [splice_get (by rw [l2, l3]; omega), splice_get (by rw [l1, l0]; omega), l1, l2, arL, arL]
  by_cases h16 : i < 16
  · rw [List.getElem?_map, List.getElem?_map, List.getElem?_range h16]
    show _ = some (Value.int .u8 (adr X n i : Nat))
    unfold adr
    rw [hn, ha]
    by_cases c1 : 16 - (2 * n - 2 * a) ≤ i
    · rw [if_pos (by omega), if_neg (by omega), if_pos (by omega)]
      unfold cBe
      rw [List.getElem?_map, List.getElem?_range (by omega)]
      show some (Value.int .u8 (gb X.g (2 * a + (i - (16 - (2 * n - 2 * a)))) : Nat)) = _
      rw [show 2 * a + (i - (16 - (2 * n - 2 * a))) = i - 2 * (8 - n) by omega]
    · rw [if_neg (by omega)]
      by_cases c2 : i < 2 * a
      · rw [if_pos (by omega), if_pos (by omega)]
        unfold cAh
        rw [List.getElem?_map, List.getElem?_range (by omega)]
        rfl
      · rw [if_neg (by omega), if_neg (by omega), if_neg (by omega)]
        rfl
  · rw [if_neg (by omega), if_neg (by omega), List.getElem?_eq_none (by simp; omega), List.getElem?_eq_none (by simp; omega)]
theorem adr_flat {X : SX} {n : Nat} (ha : X.gap < 0) (h8 : n = 8) : ∀ i, i < 16 → adr X n i = gb X.g i := fun i hi => by
  unfold adr
  rw [if_pos (by omega)]
end Go.Proofs.YteldiggaooeeeaaGreatDoor
namespace Go.Proofs.YteldiggaooeeeaaGreatDoor
open Go.RowKit Go.Maps

theorem Tryz.szB : (Tryz.prog.info? 5).map (·.size) = some 1 := by kernel_rfl
theorem GsAt.ar {w : World} {G : Nat} {X : SX} (h : GsAt w G X) : w.rangeAt G 0 (arCells (gb X.g)).toList := by
  intro j v hj
  rw [Nat.zero_add, h.cell]
  rw [arL] at hj
  by_cases hj1 : j < 16
  · rw [List.getElem?_map, List.getElem?_range hj1] at hj
    rw [gsC_byte X j hj1]
    exact hj
  · rw [List.getElem?_eq_none (by simp; omega)] at hj
    cases hj
theorem ar_all {w : World} {O : Nat} {x : Nat → Nat} (h : ArAt w O (arCells x)) : w.rangeAt O 0 (arCells x).toList := by
  intro j v hj
  rw [Nat.zero_add]
  unfold ArAt at h
  simp only [World.cell?, h]
  simpa using hj
theorem ar_congr {x y : Nat → Nat} (h : ∀ i, i < 16 → x i = y i) : arCells x = arCells y := by
  apply Array.toList_inj.1
  rw [arL, arL]
  refine List.map_congr_left fun i hi => ?_
  rw [h i (List.mem_range.1 hi)]
set_option maxHeartbeats 4000000 in
set_option maxRecDepth 100000 in
theorem address_any (G : Nat) (X : SX) (w : World) (h : GsAt w G X) (hg : SxGp X) (h8 : X.gap < 0 → X.g.length = 8) : Calls Tryz.prog 34 #[.pointer (some ⟨G, 0, none⟩)] w fun r w' => r = .returned (.agg (arCells (fil X X.g.length))) ∧ Below w.heap.size w w' := by
  have HGP : Hid (SxGp X) := hg
  obtain ⟨n, hn⟩ : ∃ n, n = X.g.length := ⟨_, rfl⟩
  obtain ⟨a, ha⟩ : ∃ a, X.gap.toNat = a := ⟨_, rfl⟩
  obtain ⟨b, hb⟩ : ∃ b, decide (0 ≤ X.gap) = b := ⟨_, rfl⟩
  have HNA : Hid (n = X.g.length ∧ X.gap.toNat = a ∧ decide (0 ≤ X.gap) = b ∧ (X.gap < 0 → n = 8)) := ⟨hn, ha, hb, fun q => by rw [hn]; exact h8 q⟩
  obtain ⟨W, hW⟩ : ∃ W_, W_ = w.alloc (.cells (arCells (fun _ => 0)) 26) := ⟨_, rfl⟩
  obtain ⟨B, hB⟩ : ∃ B_, B_ = w.heap.size := ⟨_, rfl⟩
  have HAX : Hid (ArAt W B (arCells (fun _ => 0)) ∧ Below w.heap.size w W ∧ W.heap.size = B + 1) := by rw [hW, hB]; exact ⟨heap_alloc_new _ _, (Below.refl _ _).alloc (Nat.le_refl _) _, by rw [World.size_alloc]⟩
  have HWX : Hid (w.alloc (.cells #[.int .u8 0, .int .u8 0, .int .u8 0, .int .u8 0, .int .u8 0, .int .u8 0, .int .u8 0, .int .u8 0, .int .u8 0, .int .u8 0, .int .u8 0, .int .u8 0, .int .u8 0, .int .u8 0, .int .u8 0, .int .u8 0] 26) = W) := hW.symm
  have HOX : Hid (w.heap.size = B) := hB.symm
  clear hW hB
  have HG : Hid (GsAt W G X ∧ W.cell? ⟨G, 17, none⟩ = some (.bool b)) := ⟨h.below HAX.out.2.1, by rw [← hb]; exact (h.below HAX.out.2.1).b⟩
  have k17 := HG.out.2
  have HG0 : Hid (G < w.heap.size) := h.lt
  clear h hg h8 hn ha hb
  go_enter Tryz.func34, Tryz.ntmps34
  go_upto_region 1 with fail
  rw [HOX.out, HWX.out]
  cases b with
  | false =>
    go_wp2_with (first | (refine wpList_load_ar (.tmp 13) rfl G 0 (gb X.g) rfl HG.out.1.ar rfl ?_) | (refine wpList_store_ar (.tmp 2) (.tmp 14) rfl rfl B (fun _ => 0) (gb X.g) rfl rfl HAX.out.1 rfl ?_))
    intro wE hRE kE
    have HE : Hid (ArAt wE B (arCells (gb X.g)) ∧ Below w.heap.size w wE) := ⟨hRE, HAX.out.2.1.trans (kE.below (fun q h => by have h' : q = B := h; have := HOX.out; omega) HAX.out.2.1.size)⟩
    clear hRE kE
    go_wp2
    (try simp only [Exit.inBlock, Exit.then])
    refine bodyPost_ret (results_ar rfl _ _ B (gb X.g) rfl HE.out.1) rfl ?_
    refine ⟨?_, HE.out.2⟩
    have h0 : X.gap < 0 := by have := HNA.out.2.2.1; simp at this; omega
    rw [ar_congr (x := gb X.g) (y := fil X X.g.length) (fun i hi => by rw [fil_adr HGP.out.1 _ (Nat.le_refl _) i, ← HNA.out.1, adr_flat h0 (HNA.out.2.2.2 h0) i hi])]
  | true =>
    have h0 : 0 ≤ X.gap := by have := HNA.out.2.2.1; simp at this; omega
    have HAN : Hid (X.gap = (a : Int) ∧ a ≤ n ∧ n ≤ 7) := by
      have h1 := HGP.out.1
      have h2 := HGP.out.2 h0
      have h3 := HNA.out.1
      have h4 := HNA.out.2.1
      exact ⟨by omega, by omega, by omega⟩
    clear h0
    obtain ⟨Y, hY⟩ : ∃ W_, W_ = W.alloc (.cells (arCells (fun _ => 0)) 26) := ⟨_, rfl⟩
    obtain ⟨A, hA⟩ : ∃ B_, B_ = W.heap.size := ⟨_, rfl⟩
    have HAY : Hid (ArAt Y A (arCells (fun _ => 0)) ∧ Below W.heap.size W Y ∧ Y.heap.size = A + 1) := by rw [hY, hA]; exact ⟨heap_alloc_new _ _, (Below.refl _ _).alloc (Nat.le_refl _) _, by rw [World.size_alloc]⟩
    have HWY : Hid (W.alloc (.cells #[.int .u8 0, .int .u8 0, .int .u8 0, .int .u8 0, .int .u8 0, .int .u8 0, .int .u8 0, .int .u8 0, .int .u8 0, .int .u8 0, .int .u8 0, .int .u8 0, .int .u8 0, .int .u8 0, .int .u8 0, .int .u8 0] 26) = Y) := hY.symm
    have HOY : Hid (W.heap.size = A) := hA.symm
    clear hY hA
    have HS0 : Hid (GsAt Y G X ∧ ArAt Y B (arCells (fun _ => 0)) ∧ ArAt Y A (arCells (fun _ => 0)) ∧ Below w.heap.size w Y) := ⟨HG.out.1.below HAY.out.2.1, ((Ch.ofBelow (S := fun _ => False) HAY.out.2.1).block B (Array.getElem?_eq_some_iff.1 HAX.out.1).1 (fun h => h)).trans HAX.out.1, HAY.out.1, HAX.out.2.1.trans (HAY.out.2.1.mono HAX.out.2.1.size)⟩
    have HBA : Hid (B < A) := by have h1 := HAX.out.2.2; have h2 := HOY.out; show _ < _; omega
    obtain ⟨k0, hk0⟩ : ∃ k0, k0 = 2 * a := ⟨_, rfl⟩
    obtain ⟨k1, hk1⟩ : ∃ k1, k1 = 2 * n := ⟨_, rfl⟩
    have HK : Hid (k0 = 2 * a ∧ k1 = 2 * n) := ⟨hk0, hk1⟩
    have h9 := HAN.out.2
    have x0 : IntKind.i64.wrap (2 * (a : Int)) = (k0 : Int) := by rw [i64_s _ (by omega) (by omega)]; omega
    have x1 : IntKind.i64.wrap (2 * (n : Int)) = (k1 : Int) := by rw [i64_s _ (by omega) (by omega)]; omega
    have b0 : (0 : Int) ≤ (k0 : Int) := by omega
    have b1 : (k0 : Int) ≤ (k1 : Int) := by omega
    have b2 : (k1 : Int) ≤ 16 := by omega
    have b3 : (k0 : Int) ≤ 16 := by omega
    have b4 : (k0 : Int) < 16 := by omega
    have b5 : k0 ≤ 16 := by omega
    have b6 : k1 ≤ 16 := by omega
    have b7 : k0 ≤ k1 := by omega
    have al : Tryz.prog.arrayLen 26 = 16 := by kernel_rfl
    clear hk0 hk1 h9
    go_upto_region 4 with fail
    (try rw [HOY.out])
    (try rw [HWY.out])
    refine MixH.start (fun A_ => GsAt A_ G X ∧ ArAt A_ B (arCells (fun _ => 0)) ∧ ArAt A_ A (arCells (fun _ => 0)) ∧ Below w.heap.size w A_) (by kernel_rfl) ?_
    obtain ⟨wA, hwA⟩ : ∃ W_, W_ = Y.drew := ⟨_, rfl⟩
    have bdr : Below Y.heap.size Y wA := by rw [hwA]; exact (Below.refl _ _).drew
    have hS : GsAt wA G X ∧ ArAt wA B (arCells (fun _ => 0)) ∧ ArAt wA A (arCells (fun _ => 0)) ∧ Below w.heap.size w wA := ⟨HS0.out.1.below bdr, (Ch.ofBelow (S := fun _ => False) bdr).block B (Array.getElem?_eq_some_iff.1 HS0.out.2.1).1 (fun h => h) |>.trans HS0.out.2.1, (Ch.ofBelow (S := fun _ => False) bdr).block A (Array.getElem?_eq_some_iff.1 HS0.out.2.2.1).1 (fun h => h) |>.trans HS0.out.2.2.1, HS0.out.2.2.2.trans (bdr.mono HS0.out.2.2.2.size)⟩
    rw [← hwA]
    clear hwA bdr
    refine MixH.takes [true, true, true, true, true, true, false, false, false, true, true, true, true, true, true, false, false, true, true, true] 10 (by kernel_rfl) (by kernel_rfl) (by decide) (by kernel_rfl) hS (fun K hK => ?_)
    simp only [Mix.pick]
    repeat (go_big_quiet_step (fail))
    refine wpQuiet_nil (hK _ ?_)
    clear hK K
    refine MixH.take 9 6 _ (.int .i64 (a : Nat)) rfl (by kernel_rfl) (by kernel_rfl) (by kernel_rfl) (by kernel_rfl) (yields_int (.tmp 20) rfl ⟨G, 18, none⟩ (.int .i64 (a : Nat)) rfl rfl (fun A hA => by have := hA.1.a; rwa [HNA.out.2.1] at this)) hS (fun a' ha => ?_)
    simp only [Act.put, List.setIfInBounds_toArray, List.set_cons_succ, List.set_cons_zero] at ha
    subst ha
    refine MixH.takes [false, false, false, false, false, false, false, true, true, false, false, false, false, false, false, false, false, false, false, false, false, false, false, true] 6 (by kernel_rfl) (by kernel_rfl) (by decide) (by kernel_rfl) hS (fun K hK => ?_)
    simp only [Mix.pick]
    repeat (go_big_quiet_step (fail))
    refine wpQuiet_nil (hK _ ?_)
    clear hK K
    refine MixH.take 5 15 _ (.int .i64 (a : Nat)) rfl (by kernel_rfl) (by kernel_rfl) (by kernel_rfl) (by kernel_rfl) (yields_int (.tmp 29) rfl ⟨G, 18, none⟩ (.int .i64 (a : Nat)) rfl rfl (fun A hA => by have := hA.1.a; rwa [HNA.out.2.1] at this)) hS (fun a' ha => ?_)
    simp only [Act.put, List.setIfInBounds_toArray, List.set_cons_succ, List.set_cons_zero] at ha
    subst ha
    refine MixH.takes [false, false, false, false, false, false, false, false, false, false, false, false, false, false, false, false, true] 4 (by kernel_rfl) (by kernel_rfl) (by decide) (by kernel_rfl) hS (fun K hK => ?_)
    simp only [Mix.pick]
    repeat (go_big_quiet_step (fail))
    refine wpQuiet_nil (hK _ ?_)
    clear hK K
    refine MixH.take 3 20 _ (.int .i64 (n : Nat)) rfl (by kernel_rfl) (by kernel_rfl) (by kernel_rfl) (by kernel_rfl) (yields_int (.tmp 34) rfl ⟨G, 16, none⟩ (.int .i64 (n : Nat)) rfl rfl (fun A hA => by rw [HNA.out.1]; exact hA.1.n)) hS (fun a' ha => ?_)
    simp only [Act.put, List.setIfInBounds_toArray, List.set_cons_succ, List.set_cons_zero] at ha
    subst ha
    refine MixH.takes [false, false, false, false, false, false, false, false, false, false, false, false, false, false, false, false, false, false, false, false, false, true, true, false, true] 0 (by kernel_rfl) (by kernel_rfl) (by decide) (by kernel_rfl) hS (fun K hK => ?_)
    simp only [Mix.pick]
    repeat (go_big_quiet_step (fail))
    refine wpQuiet_nil (hK _ ?_)
    clear hK K
    refine MixH.done (by kernel_rfl) ?_
    have HS1 : Hid (GsAt wA G X ∧ ArAt wA B (arCells (fun _ => 0)) ∧ ArAt wA A (arCells (fun _ => 0)) ∧ Below w.heap.size w wA) := hS
    clear hS
    have HGA : Hid (G < A ∧ w.heap.size ≤ A) := ⟨by have h1 := HG0.out; have h2 := HOX.out; have h3 := HBA.out; omega, by have h2 := HOX.out; have h3 := HBA.out; omega⟩
    obtain ⟨c1, hc1⟩ : ∃ c1, c1 = cAh X a := ⟨_, rfl⟩
    have HC1 : Hid (c1 = cAh X a ∧ c1.length = k0 ∧ (∀ v ∈ c1, v.oneCell' = true) ∧ ∀ j v, c1[j]? = some v → wA.cell? ((⟨G, 0, none⟩ : Addr).add j) = some v) := by
      refine ⟨hc1, by rw [hc1, HK.out.1]; simp [cAh], fun v hv => ?_, fun j v hj => ?_⟩
      · rw [hc1] at hv
        obtain ⟨i, _, rfl⟩ := List.mem_map.1 hv
        rfl
      · rw [hc1] at hj
        have hjl : j < 2 * a := by have := (List.getElem?_eq_some_iff.1 hj).1; simpa [cAh] using this
        unfold cAh at hj
        rw [List.getElem?_map, List.getElem?_range hjl] at hj
        rw [Addr.add_lit, Nat.zero_add, HS1.out.1.cell, gsC_byte X j (by have := HAN.out; omega)]
        exact hj
    obtain ⟨c2, hc2⟩ : ∃ c2, c2 = cBe X a n := ⟨_, rfl⟩
    obtain ⟨d, hd⟩ : ∃ d, k1 - k0 = d := ⟨_, rfl⟩
    obtain ⟨l0, hl0⟩ : ∃ l0, 16 - d = l0 := ⟨_, rfl⟩
    have HD : Hid (k1 - k0 = d ∧ 16 - d = l0 ∧ d ≤ 16) := ⟨hd, hl0, by omega⟩
    have HC2 : Hid (c2 = cBe X a n ∧ c2.length = d ∧ (∀ v ∈ c2, v.oneCell' = true) ∧ ∀ W_ : World, GsAt W_ G X → ∀ j v, c2[j]? = some v → W_.cell? ((⟨G, k0, none⟩ : Addr).add j) = some v) := by
      refine ⟨hc2, by rw [hc2, ← hd, HK.out.1, HK.out.2]; simp [cBe], fun v hv => ?_, fun W_ hW j v hj => ?_⟩
      · rw [hc2] at hv
        obtain ⟨i, _, rfl⟩ := List.mem_map.1 hv
        rfl
      · rw [hc2] at hj
        have hjl : j < 2 * n - 2 * a := by have := (List.getElem?_eq_some_iff.1 hj).1; simpa [cBe] using this
        unfold cBe at hj
        rw [List.getElem?_map, List.getElem?_range hjl] at hj
        rw [Addr.add_lit, HK.out.1, hW.cell, gsC_byte X (2 * a + j) (by have := HAN.out; omega)]
        exact hj
    have x2 : IntKind.i64.wrap (16 - (d : Int)) = (l0 : Int) := by rw [i64_s _ (by omega) (by omega)]; omega
    rw [hd]
    clear hc1 hc2
    go_wp2_with (refine wpList_copy_splice rfl (.tmp 38) (.tmp 39) 50 50 rfl 5 Tryz.underlying50 Tryz.szB (some ⟨A, 0, none⟩) (some ⟨G, 0, none⟩) 16 16 k0 16 rfl rfl A 0 (arCells (fun _ => 0)).toList 26 HS1.out.2.2.1 c1 (by rw [HC1.out.2.1]; show k0 = min k0 16; omega) (fun _ => ⟨rfl, _, rfl, HC1.out.2.2.2⟩) (by rw [HC1.out.2.1]; show 0 + k0 ≤ 16; omega) HC1.out.2.2.1 A wA (Below.refl _ _) (Nat.le_refl _) ?_)
    intro w4 hg4 hb4
    have H4 : Hid (GsAt w4 G X ∧ Below A wA w4) := ⟨(hb4.block G HGA.out.1).trans HS1.out.1, hb4⟩
    have HA4 : Hid (w4.heap[A]? = some (.cells (splice (arCells (fun _ => 0)).toList 0 c1).toArray 26 (0, 0))) := hg4.out
    have hL : (splice (arCells (fun _ => 0)).toList 0 c1).length = 16 := by rw [length_splice _ _ _ (by rw [HC1.out.2.1]; show 0 + k0 ≤ 16; omega)]; rfl
    obtain ⟨L1, hL1⟩ : ∃ L1, splice (arCells (fun _ => 0)).toList 0 c1 = L1 := ⟨_, rfl⟩
    rw [hL1] at hL
    have HL1 : Hid (splice (arCells (fun _ => 0)).toList 0 c1 = L1 ∧ L1.length = 16 ∧ w4.heap[A]? = some (.cells L1.toArray 26 (0, 0))) := ⟨hL1, hL, by have := HA4.out; rw [hL1] at this; exact this⟩
    clear hg4 hb4 hL hL1
    by_cases h0 : d = 0
    · have HD0 : Hid (d = 0 ∧ l0 = 16) := ⟨h0, by omega⟩
      obtain rfl := HD0.out.2
      obtain rfl := HD0.out.1
      clear h0
      go_wp2_with (refine wpList_copy_splice rfl (.tmp 44) (.tmp 45) 50 50 rfl 5 Tryz.underlying50 Tryz.szB _ (some ⟨G, k0, none⟩) _ _ 0 _ rfl rfl A 16 L1 26 HL1.out.2.2 c2 (by rw [HC2.out.2.1]; simp) (fun h => absurd h (by rw [HC2.out.2.1]; decide)) (by rw [HC2.out.2.1, HL1.out.2.1]; have := HD.out; omega) HC2.out.2.2.1 A wA H4.out.2 (Nat.le_refl _) ?_)
      intro w5 hg5 hb5
      have H5 : Hid (ArAt w5 A (arCells (adr X n)) ∧ Below A wA w5) := by
        refine ⟨?_, hb5⟩
        have h := hg5.out
        have e := adr_cells (X := X) (a := a) (n := n) HNA.out.1.symm HAN.out.1 HAN.out.2.1 HAN.out.2.2
        rw [← HC1.out.1, ← HC2.out.1, HL1.out.1, show 16 - (2 * n - 2 * a) = 16 by have h1 := HK.out; have h2 := HD.out; omega] at e
        rw [e] at h
        exact h
      have HB5 : Hid (ArAt w5 B (arCells (fun _ => 0))) := (hb5.block B HBA.out).trans HS1.out.2.1
      clear hg5 hb5
      go_wp2_with (first | (refine wpList_load_ar (.tmp 3) rfl A 0 (adr X n) rfl (ar_all H5.out.1) rfl ?_) | (refine wpList_store_ar (.tmp 2) (.tmp 47) rfl rfl B (fun _ => 0) (adr X n) rfl rfl HB5.out rfl ?_))
      intro wE hRE kE
      have HE : Hid (ArAt wE B (arCells (adr X n)) ∧ Below w.heap.size w wE) := ⟨hRE, (HS1.out.2.2.2.trans (H5.out.2.mono HGA.out.2)).trans (kE.below (fun q h => by have h' : q = B := h; have := HOX.out; omega) (HS1.out.2.2.2.trans (H5.out.2.mono HGA.out.2)).size)⟩
      clear hRE kE
      go_wp2
      (try simp only [Exit.inBlock, Exit.then])
      refine bodyPost_ret (results_ar rfl _ _ B (adr X n) rfl HE.out.1) rfl ?_
      refine ⟨?_, HE.out.2⟩
      rw [ar_congr (x := adr X n) (y := fil X X.g.length) (fun i _ => by rw [fil_adr HGP.out.1 _ (Nat.le_refl _) i, ← HNA.out.1])]
    · have y1 : l0 < 16 := by omega
      have y2 : (l0 : Int) < 16 := by omega
      have y3 : (l0 : Int) ≤ 16 := by omega
      have y4 : (0 : Int) ≤ (l0 : Int) := by omega
      have y5 : l0 ≤ 16 := by omega
      clear h0 hd hl0
      go_wp2_with (refine wpList_copy_splice rfl (.tmp 44) (.tmp 45) 50 50 rfl 5 Tryz.underlying50 Tryz.szB (some ⟨A, l0, none⟩) (some ⟨G, k0, none⟩) (16 - l0) (16 - l0) d _ rfl rfl A l0 L1 26 HL1.out.2.2 c2 (by rw [HC2.out.2.1]; show d = min d (16 - l0); have := HD.out; omega) (fun _ => ⟨rfl, _, rfl, HC2.out.2.2.2 w4 H4.out.1⟩) (by rw [HC2.out.2.1, HL1.out.2.1]; have := HD.out; omega) HC2.out.2.2.1 A wA H4.out.2 (Nat.le_refl _) ?_)
      intro w5 hg5 hb5
      have H5 : Hid (ArAt w5 A (arCells (adr X n)) ∧ Below A wA w5) := by
        refine ⟨?_, hb5⟩
        have h := hg5.out
        have e := adr_cells (X := X) (a := a) (n := n) HNA.out.1.symm HAN.out.1 HAN.out.2.1 HAN.out.2.2
        rw [← HC1.out.1, ← HC2.out.1, HL1.out.1, show 16 - (2 * n - 2 * a) = l0 by have h1 := HK.out; have h2 := HD.out; omega] at e
        rw [e] at h
        exact h
      have HB5 : Hid (ArAt w5 B (arCells (fun _ => 0))) := (hb5.block B HBA.out).trans HS1.out.2.1
      clear hg5 hb5
      go_wp2_with (first | (refine wpList_load_ar (.tmp 3) rfl A 0 (adr X n) rfl (ar_all H5.out.1) rfl ?_) | (refine wpList_store_ar (.tmp 2) (.tmp 47) rfl rfl B (fun _ => 0) (adr X n) rfl rfl HB5.out rfl ?_))
      intro wE hRE kE
      have HE : Hid (ArAt wE B (arCells (adr X n)) ∧ Below w.heap.size w wE) := ⟨hRE, (HS1.out.2.2.2.trans (H5.out.2.mono HGA.out.2)).trans (kE.below (fun q h => by have h' : q = B := h; have := HOX.out; omega) (HS1.out.2.2.2.trans (H5.out.2.mono HGA.out.2)).size)⟩
      clear hRE kE
      go_wp2
      (try simp only [Exit.inBlock, Exit.then])
      refine bodyPost_ret (results_ar rfl _ _ B (adr X n) rfl HE.out.1) rfl ?_
      refine ⟨?_, HE.out.2⟩
      rw [ar_congr (x := adr X n) (y := fil X X.g.length) (fun i _ => by rw [fil_adr HGP.out.1 _ (Nat.le_refl _) i, ← HNA.out.1])]
end Go.Proofs.YteldiggaooeeeaaGreatDoor
namespace Go.Proofs.YteldiggaooeeeaaGreatDoor
open Go.RowKit

theorem grp_flag {s : ByteArray} {X : SX} (hX : X.er = 0) (h : (grp s X).1.er = 0) : (grp s X).2 = ((grp s X).1.p == s.size) := by
  have hf : ∀ e a : Nat, e ≠ 0 → ¬ (X.fail e a).er = 0 := fun e a he => by rw [SX.fail_er hX]; exact he
  unfold grp grpq at h ⊢
  obtain ⟨q, hq⟩ : ∃ q, q = scP s hxB X.p := ⟨_, rfl⟩
  rw [← hq] at h ⊢
  cases c1 : q == X.p with
  | true => rw [c1] at h; exact absurd h (hf _ _ (hrE_ne s X.p).1)
  | false =>
    rw [c1] at h
    cases c2 : decide (rmN X < X.g.length + (if tlB s X q then 2 else 1)) with
    | true => rw [c2] at h; exact absurd h (hf _ _ (by decide))
    | false =>
      rw [c2] at h
      cases c3 : tlB s X q with
      | true =>
        rw [c3] at h
        cases hd : dtd s 4 X.p [] with
        | inr e => rw [hd] at h; exact absurd h (hf _ _ (dtd_er 4 X.p [] hd).1)
        | inl l => show true = (s.size == s.size); simp
      | false =>
        rw [c3] at h
        cases c4 : decide (4 < q - X.p) with
        | true => rw [c4] at h; exact absurd h (hf _ _ (by decide))
        | false => rfl
theorem slp_round {s : ByteArray} {X : SX} (hX : X.er = 0) (hp : X.p ≤ s.size) {f : Nat} (hf : mZ s (X, false) ≤ f) : slp s f (X, false) = slp s (f - 1) (rnd s X) := by
  have h1 : mZ s (X, false) = s.size + 1 - X.p := by unfold mZ; rw [if_pos (by simp [hX])]
  obtain ⟨f', rfl⟩ : ∃ f', f = f' + 1 := ⟨f - 1, by omega⟩
  show (if !false && X.er == 0 then slp s f' (rnd s X) else X) = _
  rw [if_pos (by simp [hX])]
  rfl
/-- what six answers -/
def sxR (L : SX) (n : Nat) : Sum (Nat → Nat) (Nat × Nat) := if L.er ≠ 0 then .inr (L.er, L.pl) else if L.gap < 0 ∧ L.g.length < 8 then .inr (42, n) else .inl (fil L L.g.length)
theorem pIP_six {s : ByteArray} (hs : s.size ≤ 45) (hc : hsB s 58 = true) : pIP s = match sxR (sxL s) s.size with | .inr e => .inr e | .inl x => .inl (6, x) := by
  unfold pIP sxR
  rw [if_neg (by omega), hc, if_pos rfl]
  by_cases h1 : (sxL s).er ≠ 0
  · rw [if_pos h1, if_pos h1]
  · rw [if_neg h1, if_neg h1]
    by_cases h2 : (sxL s).gap < 0 ∧ (sxL s).g.length < 8
    · rw [if_pos h2, if_pos h2]
    · rw [if_neg h2, if_neg h2]
section
variable {s : ByteArray} {Y : SX}
theorem bO_end (c1 : (Y.p == s.size) = true) : btO s Y = (Y, false, if decide (Y.g.length < 8) && !decide (0 ≤ Y.gap) then 42 else 0) := by unfold btO; rw [c1, if_pos rfl]
theorem bO_two (c1 : (Y.p == s.size) = false) (c2 : twB s Y.p = true) : btO s Y = if decide (0 ≤ Y.gap) || Y.g.length == 8 then (Y, false, 44) else ({ Y with gap := (Y.g.length : Nat), p := Y.p + 2 }, !(Y.p + 2 == s.size), 0) := by unfold btO; rw [c1, if_neg (by decide), c2, if_pos rfl]
theorem bO_one (c1 : (Y.p == s.size) = false) (c2 : twB s Y.p = false) : btO s Y = if sB s Y.p == 58 then ({ Y with p := Y.p + 1 }, true, 0) else (Y, false, 41) := by unfold btO; rw [c1, if_neg (by decide), c2, if_neg (by decide)]
theorem bW_two (c2 : twB s Y.p = true) : btw s Y = if decide (0 ≤ Y.gap) || Y.g.length == 8 then (Y.fail 44 Y.p, false) else ({ Y with gap := (Y.g.length : Nat), p := Y.p + 2 }, Y.p + 2 == s.size) := by unfold btw; rw [c2, if_pos rfl]
theorem bW_one (c2 : twB s Y.p = false) : btw s Y = if sB s Y.p == 58 then ({ Y with p := Y.p + 1 }, false) else (Y.fail 41 Y.p, false) := by unfold btw; rw [c2, if_neg (by decide)]
end
theorem rnd_stop {s : ByteArray} {X Y : SX} (h : grp s X = (Y, true)) : rnd s X = (Y, true) := by unfold rnd; rw [h]; rfl
theorem rnd_on {s : ByteArray} {X Y : SX} (h : grp s X = (Y, false)) (he : Y.er = 0) : rnd s X = btw s Y := by unfold rnd; rw [h, if_pos (by simp [he])]
theorem sxR_er {s : ByteArray} {Y : SX} (h : Y.er = 0) (e f n : Nat) (h0 : e ≠ 0) : sxR (slp s f (Y.fail e Y.p, false)) n = .inr (e, Y.p) := by
  rw [SX.fail_at h, slp_end (by simp [h0])]
  unfold sxR
  rw [if_pos (by exact h0)]
theorem sxR_cut {s : ByteArray} {Y : SX} (h : Y.er = 0) (f n : Nat) (c : Y.gap < 0 ∧ Y.g.length < 8) : sxR (slp s f (Y, true)) n = .inr (42, n) := by
  rw [slp_end (by rfl)]
  unfold sxR
  rw [if_neg (by simp [h]), if_pos c]
/-- the round's end, behind a group that was read -/
theorem round_no {s : ByteArray} {X : SX} (hX : X.er = 0) (h : (grp s X).1.er = 0) (he : (btO s (grp s X).1).2.2 ≠ 0) (f : Nat) : sxR (slp s f (rnd s X)) s.size = .inr ((btO s (grp s X).1).2.2, (btO s (grp s X).1).1.p) := by
  have hfl := grp_flag hX h
  obtain ⟨Y, hY⟩ : ∃ Y, Y = (grp s X).1 := ⟨_, rfl⟩
  rw [← hY] at h he hfl ⊢
  cases c1 : Y.p == s.size with
  | true =>
    rw [c1] at hfl
    have e1 : grp s X = (Y, true) := by rw [hY]; exact Prod.ext rfl hfl
    have e2 := bO_end c1
    cases c2 : (decide (Y.g.length < 8) && !decide (0 ≤ Y.gap)) with
    | true =>
      rw [c2, if_pos rfl] at e2
      have k : Y.gap < 0 ∧ Y.g.length < 8 := by simp at c2; exact ⟨by omega, c2.1⟩
      have k2 : Y.p = s.size := by simpa using c1
      rw [rnd_stop e1, e2, sxR_cut h f _ k, k2]
    | false => rw [e2, c2] at he; exact absurd rfl he
  | false =>
    rw [c1] at hfl
    have e1 : grp s X = (Y, false) := by rw [hY]; exact Prod.ext rfl hfl
    rw [rnd_on e1 h]
    cases c2 : twB s Y.p with
    | true =>
      have e2 := bO_two c1 c2
      have e3 := bW_two (s := s) c2
      cases c3 : (decide (0 ≤ Y.gap) || Y.g.length == 8) with
      | true =>
        rw [c3, if_pos rfl] at e2 e3
        rw [e2, e3]
        exact sxR_er h 44 f _ (by decide)
      | false => rw [e2, c3] at he; exact absurd rfl he
    | false =>
      have e2 := bO_one c1 c2
      have e3 := bW_one (s := s) c2
      cases c3 : sB s Y.p == 58 with
      | true => rw [e2, c3] at he; exact absurd rfl he
      | false =>
        rw [c3, if_neg (by decide)] at e2 e3
        rw [e2, e3]
        exact sxR_er h 41 f _ (by decide)
theorem round_go {s : ByteArray} {X : SX} (hX : X.er = 0) (h : (grp s X).1.er = 0) (he : (btO s (grp s X).1).2.2 = 0) : rnd s X = ((btO s (grp s X).1).1, !(btO s (grp s X).1).2.1) ∧ (btO s (grp s X).1).1.er = 0 ∧ ((btO s (grp s X).1).2.1 = false → (btO s (grp s X).1).1.gap < 0 → 8 ≤ (btO s (grp s X).1).1.g.length) := by
  have hfl := grp_flag hX h
  obtain ⟨Y, hY⟩ : ∃ Y, Y = (grp s X).1 := ⟨_, rfl⟩
  rw [← hY] at h he hfl ⊢
  cases c1 : Y.p == s.size with
  | true =>
    rw [c1] at hfl
    have e1 : grp s X = (Y, true) := by rw [hY]; exact Prod.ext rfl hfl
    have e2 := bO_end c1
    cases c2 : (decide (Y.g.length < 8) && !decide (0 ≤ Y.gap)) with
    | true => rw [e2, c2] at he; exact absurd he (by simp)
    | false =>
      rw [c2, if_neg (by decide)] at e2
      rw [e2, rnd_stop e1]
      refine ⟨rfl, h, fun _ hg => ?_⟩
      have hg' : Y.gap < 0 := hg
      show 8 ≤ Y.g.length
      simp at c2
      omega
  | false =>
    rw [c1] at hfl
    have e1 : grp s X = (Y, false) := by rw [hY]; exact Prod.ext rfl hfl
    rw [rnd_on e1 h]
    cases c2 : twB s Y.p with
    | true =>
      have e2 := bO_two c1 c2
      have e3 := bW_two (s := s) c2
      cases c3 : (decide (0 ≤ Y.gap) || Y.g.length == 8) with
      | true => rw [e2, c3] at he; exact absurd he (by simp)
      | false =>
        rw [c3, if_neg (by decide)] at e2 e3
        rw [e2, e3]
        refine ⟨by simp, h, fun _ hg => ?_⟩
        have hg' : ((Y.g.length : Nat) : Int) < 0 := hg
        omega
    | false =>
      have e2 := bO_one c1 c2
      have e3 := bW_one (s := s) c2
      cases c3 : sB s Y.p == 58 with
      | true =>
        rw [c3, if_pos rfl] at e2 e3
        rw [e2, e3]
        exact ⟨rfl, h, fun h0 => by cases h0⟩
      | false => rw [e2, c3] at he; exact absurd he (by simp)
theorem round_er {s : ByteArray} {X : SX} (h : (grp s X).1.er ≠ 0) (f : Nat) : sxR (slp s f (rnd s X)) s.size = .inr ((grp s X).1.er, (grp s X).1.pl) := by
  unfold rnd
  rw [if_neg (by simp [h])]
  have e : slp s f (grp s X) = (grp s X).1 := slp_end (by simp [h]) f
  rw [e]
  unfold sxR
  rw [if_pos h]
/-- more, and the place: what the rounds go down by -/
def sxN (s : ByteArray) (R : Nat) (d : Value) (w : World) : Nat := match d, w.cell? ⟨R, 1, none⟩ with
  | .bool true, some (.int _ p) => s.size + 1 - p.toNat
  | _, _ => 0
theorem sxN_go {s : ByteArray} {R p : Nat} {w : World} (h : RdAt w R s p) : sxN s R (.bool true) w = s.size + 1 - p := by
  unfold sxN
  rw [h.c1]
  simp
theorem results_ar_tmp {fn : Func} {p u0 : Tmp} (h : fn.results = #[.cell p 26, .tmp u0]) (tmps : Array Value) (w : World) (O : Nat) (x : Nat → Nat) (hp : tmps.getD p undef = .pointer (some ⟨O, 0, none⟩)) (hb : ArAt w O (arCells x)) :
    (results fn tmps).run Tryz.prog w = .ok (.tuple #[.agg (arCells x), tmps.getD u0 undef]) w := by
  have hp' : tmps[p]?.getD undef = .pointer (some ⟨O, 0, none⟩) := by simpa using hp
  simp [results, h, hp', asAddr, run_loadVar_row w O _ 26 (arCells x) _ _ hb Tryz.underlying26 rfl Tryz.sizeAr]
end Go.Proofs.YteldiggaooeeeaaGreatDoor
namespace Go.Proofs.YteldiggaooeeeaaGreatDoor
open Go.RowKit Go.Maps

/-- nothing read yet -/
def sxZ : SX := ⟨[], -1, 0, 0, 0⟩
theorem gsC_zero : gsC sxZ = #[.int .u8 0, .int .u8 0, .int .u8 0, .int .u8 0, .int .u8 0, .int .u8 0, .int .u8 0, .int .u8 0, .int .u8 0, .int .u8 0, .int .u8 0, .int .u8 0, .int .u8 0, .int .u8 0, .int .u8 0, .int .u8 0, .int .i64 0, .bool false, .int .i64 0] := rfl
theorem gsC_set0 : (gsC sxZ).setIfInBounds 17 (.bool false) = gsC sxZ := rfl
theorem gsC_set1 : (gsC { sxZ with p := 2 }).setIfInBounds 17 (.bool true) = gsC ⟨[], 0, 2, 0, 0⟩ := rfl
/-- what six leaves -/
def SixR (w : World) (R : Nat) (s : ByteArray) (r : Ending) (w' : World) : Prop := (match sxR (sxL s) s.size with
  | .inr e => r = .returned (.tuple #[.agg (arCells (fun _ => 0)), .int .i64 (e.1 : Nat)]) ∧ RdAt w' R s e.2
  | .inl x => r = .returned (.tuple #[.agg (arCells x), .int .i64 0])) ∧ Ch (fun k => k = R) w w'
theorem SixR.no {w : World} {R : Nat} {s : ByteArray} {r : Ending} {w' : World} {e p : Nat} (h : sxR (sxL s) s.size = .inr (e, p)) (hr : r = .returned (.tuple #[.agg (arCells (fun _ => 0)), .int .i64 (e : Nat)])) (hw : RdAt w' R s p) (c : Ch (fun k => k = R) w w') : SixR w R s r w' := by unfold SixR; rw [h]; exact ⟨⟨hr, hw⟩, c⟩
theorem SixR.yes {w : World} {R : Nat} {s : ByteArray} {r : Ending} {w' : World} {x : Nat → Nat} (h : sxR (sxL s) s.size = .inl x) (hr : r = .returned (.tuple #[.agg (arCells x), .int .i64 0])) (c : Ch (fun k => k = R) w w') : SixR w R s r w' := by unfold SixR; rw [h]; exact ⟨hr, c⟩
/-- what holds at a round's head -/
structure SxI (s : ByteArray) (X : SX) (d : Bool) (f : Nat) : Prop where
  ok : SxOk s X
  gp : SxGp X
  er : X.er = 0
  sl : slp s f (X, d) = sxL s
  m : mZ s (X, d) ≤ f
  hd : d = false → SxHd X
  n : d = true → X.gap < 0 → 8 ≤ X.g.length
theorem sxI_start {s : ByteArray} {X : SX} {d : Bool} (h : sx0 s = (X, d)) : SxI s X d (s.size + 1) := by
  have h1 := sx0_ok s
  have h2 := sx0_gp s
  have h3 := sx0_hd s
  have h4 := sx0_m s
  rw [h] at h1 h2 h3 h4
  refine ⟨h1, h2, ?_, by unfold sxL; rw [h], h4, fun _ => h3, fun hd hg => ?_⟩
  · unfold sx0 at h
    split at h <;> (injection h with e1 e2; rw [← e1])
  · unfold sx0 at h
    split at h
    · injection h with e1 e2
      rw [← e1] at hg
      exact absurd hg (by decide)
    · injection h with e1 e2
      rw [hd] at e2
      cases e2
theorem SxI.next {s : ByteArray} {X : SX} {f : Nat} (h : SxI s X false f) (h1 : (grp s X).1.er = 0) {Y : SX} {m : Bool} (hO : btO s (grp s X).1 = (Y, m, 0)) : SxI s Y (!m) (f - 1) ∧ (m = true → s.size + 1 - Y.p < s.size + 1 - X.p) := by
  obtain ⟨k1, k2, k3⟩ := round_go h.er h1 (by rw [hO])
  rw [hO] at k1 k2 k3
  dsimp only at k1 k2 k3
  have r1 := rnd_ok' h.ok
  have r2 := rnd_gp h.ok h.gp
  have r3 := rnd_less' h.ok
  have r4 := h.sl
  have r5 : mZ s (X, false) = s.size + 1 - X.p := by unfold mZ; rw [if_pos (by simp [h.er])]
  have r6 := h.m
  rw [slp_round h.er h.ok.p h.m] at r4
  rw [k1] at r1 r2 r3 r4
  refine ⟨⟨r1, r2, k2, r4, by omega, fun hd => ?_, fun hd => ?_⟩, fun hm => ?_⟩
  · have := rnd_hd h.ok (by rw [k1]; exact hd) (by rw [k1]; exact k2)
    rw [k1] at this
    exact this
  · exact k3 (by simpa using hd)
  · have k2' : Y.er = 0 := k2
    have e : mZ s (Y, !m) = s.size + 1 - Y.p := by unfold mZ; rw [if_pos (by simp [hm, k2'])]
    have r3' : mZ s (Y, !m) < s.size + 1 - X.p := r3
    omega
theorem SxI.done {s : ByteArray} {X : SX} {f : Nat} (h : SxI s X true f) : sxR (sxL s) s.size = .inl (fil X X.g.length) := by
  rw [← h.sl, slp_end (by rfl)]
  show sxR X s.size = _
  unfold sxR
  rw [if_neg (by simp [h.er]), if_neg (fun k => by have := h.n rfl k.1; omega)]
set_option maxHeartbeats 4000000 in
set_option maxRecDepth 100000 in
theorem six_any (R : Nat) (s : ByteArray) (w : World) (h : RdAt w R s 0) (hs : s.size ≤ 1000) : Calls Tryz.prog 16 #[.pointer (some ⟨R, 0, none⟩)] w fun r w' => SixR w R s r w' := by
  have HP : Hid (s.size ≤ 1000) := hs
  have HRL : Hid (R < w.heap.size) := h.lt
  obtain ⟨t, ht⟩ : ∃ t, twB s 0 = t := ⟨_, rfl⟩
  have HT : Hid (twB s 0 = t) := ht
  clear hs ht
  obtain ⟨V, hV⟩ : ∃ W_, W_ = w.alloc (.cells (arCells (fun _ => 0)) 26) := ⟨_, rfl⟩
  obtain ⟨B, hB⟩ : ∃ B_, B_ = w.heap.size := ⟨_, rfl⟩
  have HAX : Hid (ArAt V B (arCells (fun _ => 0)) ∧ Below w.heap.size w V ∧ V.heap.size = B + 1) := by rw [hV, hB]; exact ⟨heap_alloc_new _ _, (Below.refl _ _).alloc (Nat.le_refl _) _, by rw [World.size_alloc]⟩
  have HWX : Hid (w.alloc (.cells #[.int .u8 0, .int .u8 0, .int .u8 0, .int .u8 0, .int .u8 0, .int .u8 0, .int .u8 0, .int .u8 0, .int .u8 0, .int .u8 0, .int .u8 0, .int .u8 0, .int .u8 0, .int .u8 0, .int .u8 0, .int .u8 0] 26) = V) := hV.symm
  have HOX : Hid (w.heap.size = B) := hB.symm
  clear hV hB
  obtain ⟨W, hW⟩ : ∃ W_, W_ = V.alloc (.cells (gsC sxZ) 68) := ⟨_, rfl⟩
  obtain ⟨G, hG⟩ : ∃ G_, G_ = V.heap.size := ⟨_, rfl⟩
  have HGW : Hid (GsAt W G sxZ ∧ Below V.heap.size V W ∧ W.heap.size = G + 1) := by rw [hW, hG]; exact ⟨heap_alloc_new _ _, (Below.refl _ _).alloc (Nat.le_refl _) _, by rw [World.size_alloc]⟩
  have HWG : Hid (V.alloc (.cells #[.int .u8 0, .int .u8 0, .int .u8 0, .int .u8 0, .int .u8 0, .int .u8 0, .int .u8 0, .int .u8 0, .int .u8 0, .int .u8 0, .int .u8 0, .int .u8 0, .int .u8 0, .int .u8 0, .int .u8 0, .int .u8 0, .int .i64 0, .bool false, .int .i64 0] 68) = W) := by rw [← gsC_zero]; exact hW.symm
  have HOG : Hid (V.heap.size = G) := hG.symm
  have HNE : Hid (G ≠ R ∧ w.heap.size ≤ G ∧ B ≠ R ∧ B < G ∧ w.heap.size ≤ B ∧ G < W.heap.size ∧ R < w.heap.size) := by
    have h1 := HRL.out
    have h2 := HAX.out.2.2
    have h3 := HOX.out
    have h4 := HGW.out.2.2
    exact ⟨by omega, by omega, by omega, by omega, by omega, by omega, h1⟩
  have HBG : Hid (B + 1 = G) := by have h2 := HAX.out.2.2; have h3 := HOG.out; show _ = _; omega
  have HCW : Hid (Ch (fun k => k = R) w W) := (Ch.ofBelow (S := fun k => k = R) HAX.out.2.1).trans (Ch.ofBelow (S := fun _ => False) HGW.out.2.1) (fun _ _ h => h.elim)
  have H0 : Hid (RG W W R G s sxZ) := RG.start ((h.below HAX.out.2.1).below HGW.out.2.1) HGW.out.1
  have HBW : Hid (ArAt W B (arCells (fun _ => 0))) := HAX.out.1.below HGW.out.2.1
  clear h hW hG
  go_enter Tryz.func16, Tryz.ntmps16
  go_upto_region 2 with fail
  (try rw [HOX.out])
  (try rw [HWX.out])
  (try rw [HOG.out])
  (try rw [HWG.out])
  rw [HBG.out]
  go_wp2_with fail
  refine (skip_any R s ⟨#[58, 58]⟩ 0 W H0.out.1 (Nat.zero_le _) HP.out (by decide)).mono ?_
  rintro e w1 ⟨rfl, hrd, hch⟩
  rw [stB_two, HT.out] at hrd ⊢
  have H1 : Hid (RG W w1 R G s { sxZ with p := if t then 2 else 0 }) := H0.out.rd HNE.out.1 ⟨by cases t <;> exact hrd, hch⟩
  clear hrd hch
  have k17 : w1.cell? ⟨G, 17, none⟩ = some (.bool false) := H1.out.2.1.b
  have f17 : w1.frozen? ⟨G, 17, none⟩ = false := H1.out.2.1.fz 17
  obtain ⟨w2, hw2⟩ : ∃ w2, w2 = w1.setCell ⟨G, 17, none⟩ (.bool t) := ⟨_, rfl⟩
  have HW2 : Hid (w1.setCell ⟨G, 17, none⟩ (.bool t) = w2) := hw2.symm
  have HC2 : Hid (Ch (fun k => k = G) w1 w2) := by show Ch _ _ _; rw [hw2]; exact (Ch.refl (fun k => k = G) w1).set ⟨G, 17, none⟩ _ rfl
  cases t with
  | true =>
    have H2 : Hid (RG W w2 R G s ⟨[], 0, 2, 0, 0⟩) := by
      refine ⟨H1.out.1.ch HC2.out (fun e => HNE.out.1 e.symm), ?_, H1.out.2.2.trans HC2.out (fun _ _ h => .inr h)⟩
      have h := heap_setCell_same w1 G 17 _ _ (.bool true) H1.out.2.1
      rw [← hw2] at h
      exact h
    have k2 : w2.cell? ⟨G, 17, none⟩ = some (.bool true) := H2.out.2.1.b
    clear hw2
    go_upto_region 3 with fail
    rw [HW2.out]
    go_wp2_with fail
    refine (ended_any R s 2 w2 H2.out.1).mono ?_
    rintro e w3 ⟨rfl, hn⟩
    have H3 : Hid (RG W w3 R G s ⟨[], 0, 2, 0, 0⟩) := H2.out.no hn
    obtain ⟨d0, hd0⟩ : ∃ d0, (2 == s.size) = d0 := ⟨_, rfl⟩
    have HS0 : Hid (sx0 s = (⟨[], 0, 2, 0, 0⟩, d0)) := by
      show _ = _
      unfold sx0
      rw [HT.out, if_pos rfl, ← hd0, Bool.eq_iff_iff.2 (show (s.size == 2) = true ↔ (2 == s.size) = true by simp; omega)]
    rw [hd0]
    clear hn k17 f17 k2 hd0
    go_wp2_with fail
    go_loopw [5] (fun mv wr => ∃ (X : SX) (d : Bool) (f : Nat), mv = .bool (!d) ∧ Hid (SxI s X d f) ∧ Hid (RG W wr R G s X)) (fun mv wr => sxN s R mv wr)
    case atStart => exact ⟨⟨[], 0, 2, 0, 0⟩, d0, s.size + 1, rfl, sxI_start HS0.out, H3.out⟩
    case round =>
      obtain ⟨X, d, f, rfl, HI, HR⟩ := hrel
      have HB_wr : Hid (ArAt wr B (arCells (fun _ => 0))) := (HR.out.2.2.block B (by have h1 := HNE.out; omega) (by have h1 := HNE.out; omega)).trans HBW.out
      cases d with
      | true =>
        have HF : Hid (sxR (sxL s) s.size = .inl (fil X X.g.length)) := HI.out.done
        go_wp2_with fail
        refine (address_any G X wr HR.out.2.1 HI.out.gp (fun h => by have h1 := HI.out.n rfl h; have h2 := HI.out.ok.l; omega)).mono ?_
        rintro e w5 ⟨rfl, hb⟩
        obtain ⟨x5, hx5⟩ : ∃ x5, fil X X.g.length = x5 := ⟨_, rfl⟩
        have HX5 : Hid (fil X X.g.length = x5) := hx5
        rw [hx5]
        have HB5 : Hid (ArAt w5 B (arCells (fun _ => 0)) ∧ Ch (fun k => k = R ∨ k = G ∨ k = B) W w5) := ⟨HB_wr.out.below hb, (HR.out.2.2.mono (T := fun k => k = R ∨ k = G ∨ k = B) (fun _ _ h => by rcases h with h | h <;> simp [h])).trans (Ch.ofBelow (S := fun _ => False) hb) (fun _ _ h => h.elim)⟩
        clear hb hx5
        go_wp2_with (refine wpList_store_ar (.tmp 2) (.tmp 34) rfl rfl B (fun _ => 0) x5 rfl rfl HB5.out.1 rfl ?_)
        intro wE hRE kE
        have HE : Hid (ArAt wE B (arCells x5) ∧ Ch (fun k => k = R) w wE) := ⟨hRE, HCW.out.trans (HB5.out.2.trans kE (fun _ _ h => .inr (.inr h))) (fun x hx hT => by have h1 := HNE.out; rcases hT with h | h | h <;> omega)⟩
        clear hRE kE
        go_wp2
        (try simp only [Exit.inBlock, Exit.then])
        refine bodyPost_ret (results_ar_tmp rfl _ _ B x5 rfl HE.out.1) rfl ?_
        exact SixR.yes (HF.out.trans (by rw [HX5.out])) rfl HE.out.2
      | false =>
        go_wp2_with fail
        refine (group_any R G s X wr HR.out.1 HR.out.2.1 HNE.out.1 HP.out HI.out.ok (HI.out.hd rfl) HI.out.er).mono ?_
        rintro e w3 ⟨rfl, hok, her, hch⟩
        obtain ⟨er, hE⟩ : ∃ er, (grp s X).1.er = er := ⟨_, rfl⟩
        have HER : Hid ((grp s X).1.er = er) := hE
        have HC3 : Hid (Ch (fun k => k = R ∨ k = G) W w3) := HR.out.2.2.trans hch (fun _ _ h => h)
        have HB_w3 : Hid (ArAt w3 B (arCells (fun _ => 0))) := (HC3.out.block B (by have h1 := HNE.out; omega) (by have h1 := HNE.out; omega)).trans HBW.out
        by_cases h0 : er = 0
        · have HY : Hid (RG wr w3 R G s (grp s X).1) := hok (hE.trans h0)
          rw [hE, h0]
          have HE0 : Hid ((grp s X).1.er = 0) := hE.trans h0
          clear hok her hch hE h0
          go_wp2_with fail
          refine (betweenP_any R G s (grp s X).1 w3 HY.out.1 HY.out.2.1 HNE.out.1 (grp_ok' HI.out.ok).p HP.out (grp_ok' HI.out.ok).l).mono ?_
          rintro e w4 ⟨rfl, hrg⟩
          obtain ⟨Y, m, c, hO⟩ : ∃ Y m c, btO s (grp s X).1 = (Y, m, c) := ⟨_, _, _, rfl⟩
          rw [hO] at hrg ⊢
          have HO : Hid (btO s (grp s X).1 = (Y, m, c)) := hO
          have H4 : Hid (RG wr w4 R G s Y) := HY.out.to hrg
          have HC4 : Hid (Ch (fun k => k = R ∨ k = G) W w4) := HR.out.2.2.trans H4.out.2.2 (fun _ _ h => h)
          have HB_w4 : Hid (ArAt w4 B (arCells (fun _ => 0))) := (HC4.out.block B (by have h1 := HNE.out; omega) (by have h1 := HNE.out; omega)).trans HBW.out
          show _
          simp only [btV]
          clear hrg hO
          by_cases hc : c = 0
          · subst hc
            have HN := HI.out.next HE0.out HO.out
            have HNX : Hid (SxI s Y (!m) (f - 1) ∧ (m = true → s.size + 1 - Y.p < s.size + 1 - X.p)) := HN
            clear HN
            go_wp2
            go_roundw
            case rel => exact ⟨Y, !m, f - 1, by simp, HNX.out.1, ⟨H4.out.1, H4.out.2.1, HC4.out⟩⟩
            case measure =>
              have h1 := sxN_go HR.out.1
              have h2 := HI.out.ok.p
              cases m with
              | true =>
                have h3 := sxN_go H4.out.1
                have h4 := HNX.out.2 rfl
                show sxN s R (.bool true) w4 < sxN s R (.bool true) wr
                omega
              | false =>
                show 0 < sxN s R (.bool true) wr
                omega
          · have HF : Hid (sxR (sxL s) s.size = .inr (c, Y.p)) := by
              have h := round_no HI.out.er HE0.out (by rw [HO.out]; exact hc) (f - 1)
              rw [← slp_round HI.out.er HI.out.ok.p HI.out.m, HI.out.sl, HO.out] at h
              exact h
            have e1 : (((c : Nat) : Int) != 0) = true := by simp [hc]
            clear hc
            go_wp2_with (refine wpList_store_ar (.tmp 2) (.tmp 32) rfl rfl B (fun _ => 0) (fun _ => 0) rfl rfl HB_w4.out rfl ?_)
            intro wE hRE kE
            have HE : Hid (ArAt wE B (arCells (fun _ => 0)) ∧ RdAt wE R s (Y.p) ∧ Ch (fun k => k = R) w wE) := ⟨hRE, (H4.out.1).ch kE (by have h' := HNE.out.2.2; omega), HCW.out.trans (((HC4.out).mono (T := fun k => k = R ∨ k = G ∨ k = B) (fun _ _ h => by rcases h with h | h <;> simp [h])).trans kE (fun _ _ h => .inr (.inr h))) (fun x hx hT => by have h1 := HNE.out; rcases hT with h | h | h <;> omega)⟩
            clear hRE kE
            go_wp2
            (try simp only [Exit.inBlock, Exit.then])
            refine bodyPost_ret (results_ar_tmp rfl _ _ B (fun _ => 0) rfl HE.out.1) rfl ?_
            exact SixR.no HF.out rfl HE.out.2.1 HE.out.2.2
        · have HF : Hid (sxR (sxL s) s.size = .inr (er, (grp s X).1.pl)) := by
            have h := round_er (s := s) (X := X) (by rw [hE]; exact h0) (f - 1)
            rw [← slp_round HI.out.er HI.out.ok.p HI.out.m, HI.out.sl, hE] at h
            exact h
          have HRD : Hid (RdAt w3 R s (grp s X).1.pl) := her (by rw [hE]; exact h0)
          have e1 : (((er : Nat) : Int) != 0) = true := by simp [h0]
          rw [hE]
          clear hok her hch hE h0
          go_wp2_with (refine wpList_store_ar (.tmp 2) (.tmp 23) rfl rfl B (fun _ => 0) (fun _ => 0) rfl rfl HB_w3.out rfl ?_)
          intro wE hRE kE
          have HE : Hid (ArAt wE B (arCells (fun _ => 0)) ∧ RdAt wE R s ((grp s X).1.pl) ∧ Ch (fun k => k = R) w wE) := ⟨hRE, (HRD.out).ch kE (by have h' := HNE.out.2.2; omega), HCW.out.trans (((HC3.out).mono (T := fun k => k = R ∨ k = G ∨ k = B) (fun _ _ h => by rcases h with h | h <;> simp [h])).trans kE (fun _ _ h => .inr (.inr h))) (fun x hx hT => by have h1 := HNE.out; rcases hT with h | h | h <;> omega)⟩
          clear hRE kE
          go_wp2
          (try simp only [Exit.inBlock, Exit.then])
          refine bodyPost_ret (results_ar_tmp rfl _ _ B (fun _ => 0) rfl HE.out.1) rfl ?_
          exact SixR.no HF.out rfl HE.out.2.1 HE.out.2.2
  | false =>
    have H3 : Hid (RG W w2 R G s sxZ) := by
      refine ⟨H1.out.1.ch HC2.out (fun e => HNE.out.1 e.symm), ?_, H1.out.2.2.trans HC2.out (fun _ _ h => .inr h)⟩
      have h := heap_setCell_same w1 G 17 _ _ (.bool false) H1.out.2.1
      rw [← hw2] at h
      exact h
    have k2 : w2.cell? ⟨G, 17, none⟩ = some (.bool false) := H3.out.2.1.b
    have HS0 : Hid (sx0 s = (sxZ, false)) := by
      show _ = _
      unfold sx0
      rw [HT.out, if_neg (by decide)]
      rfl
    clear hw2
    go_upto_region 3 with fail
    rw [HW2.out]
    go_wp2_with fail
    clear k17 f17 k2
    go_loopw [5] (fun mv wr => ∃ (X : SX) (d : Bool) (f : Nat), mv = .bool (!d) ∧ Hid (SxI s X d f) ∧ Hid (RG W wr R G s X)) (fun mv wr => sxN s R mv wr)
    case atStart => exact ⟨sxZ, false, s.size + 1, rfl, sxI_start HS0.out, H3.out⟩
    case round =>
      obtain ⟨X, d, f, rfl, HI, HR⟩ := hrel
      have HB_wr : Hid (ArAt wr B (arCells (fun _ => 0))) := (HR.out.2.2.block B (by have h1 := HNE.out; omega) (by have h1 := HNE.out; omega)).trans HBW.out
      cases d with
      | true =>
        have HF : Hid (sxR (sxL s) s.size = .inl (fil X X.g.length)) := HI.out.done
        go_wp2_with fail
        refine (address_any G X wr HR.out.2.1 HI.out.gp (fun h => by have h1 := HI.out.n rfl h; have h2 := HI.out.ok.l; omega)).mono ?_
        rintro e w5 ⟨rfl, hb⟩
        obtain ⟨x5, hx5⟩ : ∃ x5, fil X X.g.length = x5 := ⟨_, rfl⟩
        have HX5 : Hid (fil X X.g.length = x5) := hx5
        rw [hx5]
        have HB5 : Hid (ArAt w5 B (arCells (fun _ => 0)) ∧ Ch (fun k => k = R ∨ k = G ∨ k = B) W w5) := ⟨HB_wr.out.below hb, (HR.out.2.2.mono (T := fun k => k = R ∨ k = G ∨ k = B) (fun _ _ h => by rcases h with h | h <;> simp [h])).trans (Ch.ofBelow (S := fun _ => False) hb) (fun _ _ h => h.elim)⟩
        clear hb hx5
        go_wp2_with (refine wpList_store_ar (.tmp 2) (.tmp 34) rfl rfl B (fun _ => 0) x5 rfl rfl HB5.out.1 rfl ?_)
        intro wE hRE kE
        have HE : Hid (ArAt wE B (arCells x5) ∧ Ch (fun k => k = R) w wE) := ⟨hRE, HCW.out.trans (HB5.out.2.trans kE (fun _ _ h => .inr (.inr h))) (fun x hx hT => by have h1 := HNE.out; rcases hT with h | h | h <;> omega)⟩
        clear hRE kE
        go_wp2
        (try simp only [Exit.inBlock, Exit.then])
        refine bodyPost_ret (results_ar_tmp rfl _ _ B x5 rfl HE.out.1) rfl ?_
        exact SixR.yes (HF.out.trans (by rw [HX5.out])) rfl HE.out.2
      | false =>
        go_wp2_with fail
        refine (group_any R G s X wr HR.out.1 HR.out.2.1 HNE.out.1 HP.out HI.out.ok (HI.out.hd rfl) HI.out.er).mono ?_
        rintro e w3 ⟨rfl, hok, her, hch⟩
        obtain ⟨er, hE⟩ : ∃ er, (grp s X).1.er = er := ⟨_, rfl⟩
        have HER : Hid ((grp s X).1.er = er) := hE
        have HC3 : Hid (Ch (fun k => k = R ∨ k = G) W w3) := HR.out.2.2.trans hch (fun _ _ h => h)
        have HB_w3 : Hid (ArAt w3 B (arCells (fun _ => 0))) := (HC3.out.block B (by have h1 := HNE.out; omega) (by have h1 := HNE.out; omega)).trans HBW.out
        by_cases h0 : er = 0
        · have HY : Hid (RG wr w3 R G s (grp s X).1) := hok (hE.trans h0)
          rw [hE, h0]
          have HE0 : Hid ((grp s X).1.er = 0) := hE.trans h0
          clear hok her hch hE h0
          go_wp2_with fail
          refine (betweenP_any R G s (grp s X).1 w3 HY.out.1 HY.out.2.1 HNE.out.1 (grp_ok' HI.out.ok).p HP.out (grp_ok' HI.out.ok).l).mono ?_
          rintro e w4 ⟨rfl, hrg⟩
          obtain ⟨Y, m, c, hO⟩ : ∃ Y m c, btO s (grp s X).1 = (Y, m, c) := ⟨_, _, _, rfl⟩
          rw [hO] at hrg ⊢
          have HO : Hid (btO s (grp s X).1 = (Y, m, c)) := hO
          have H4 : Hid (RG wr w4 R G s Y) := HY.out.to hrg
          have HC4 : Hid (Ch (fun k => k = R ∨ k = G) W w4) := HR.out.2.2.trans H4.out.2.2 (fun _ _ h => h)
          have HB_w4 : Hid (ArAt w4 B (arCells (fun _ => 0))) := (HC4.out.block B (by have h1 := HNE.out; omega) (by have h1 := HNE.out; omega)).trans HBW.out
          show _
          simp only [btV]
          clear hrg hO
          by_cases hc : c = 0
          · subst hc
            have HN := HI.out.next HE0.out HO.out
            have HNX : Hid (SxI s Y (!m) (f - 1) ∧ (m = true → s.size + 1 - Y.p < s.size + 1 - X.p)) := HN
            clear HN
            go_wp2
            go_roundw
            case rel => exact ⟨Y, !m, f - 1, by simp, HNX.out.1, ⟨H4.out.1, H4.out.2.1, HC4.out⟩⟩
            case measure =>
              have h1 := sxN_go HR.out.1
              have h2 := HI.out.ok.p
              cases m with
              | true =>
                have h3 := sxN_go H4.out.1
                have h4 := HNX.out.2 rfl
                show sxN s R (.bool true) w4 < sxN s R (.bool true) wr
                omega
              | false =>
                show 0 < sxN s R (.bool true) wr
                omega
          · have HF : Hid (sxR (sxL s) s.size = .inr (c, Y.p)) := by
              have h := round_no HI.out.er HE0.out (by rw [HO.out]; exact hc) (f - 1)
              rw [← slp_round HI.out.er HI.out.ok.p HI.out.m, HI.out.sl, HO.out] at h
              exact h
            have e1 : (((c : Nat) : Int) != 0) = true := by simp [hc]
            clear hc
            go_wp2_with (refine wpList_store_ar (.tmp 2) (.tmp 32) rfl rfl B (fun _ => 0) (fun _ => 0) rfl rfl HB_w4.out rfl ?_)
            intro wE hRE kE
            have HE : Hid (ArAt wE B (arCells (fun _ => 0)) ∧ RdAt wE R s (Y.p) ∧ Ch (fun k => k = R) w wE) := ⟨hRE, (H4.out.1).ch kE (by have h' := HNE.out.2.2; omega), HCW.out.trans (((HC4.out).mono (T := fun k => k = R ∨ k = G ∨ k = B) (fun _ _ h => by rcases h with h | h <;> simp [h])).trans kE (fun _ _ h => .inr (.inr h))) (fun x hx hT => by have h1 := HNE.out; rcases hT with h | h | h <;> omega)⟩
            clear hRE kE
            go_wp2
            (try simp only [Exit.inBlock, Exit.then])
            refine bodyPost_ret (results_ar_tmp rfl _ _ B (fun _ => 0) rfl HE.out.1) rfl ?_
            exact SixR.no HF.out rfl HE.out.2.1 HE.out.2.2
        · have HF : Hid (sxR (sxL s) s.size = .inr (er, (grp s X).1.pl)) := by
            have h := round_er (s := s) (X := X) (by rw [hE]; exact h0) (f - 1)
            rw [← slp_round HI.out.er HI.out.ok.p HI.out.m, HI.out.sl, hE] at h
            exact h
          have HRD : Hid (RdAt w3 R s (grp s X).1.pl) := her (by rw [hE]; exact h0)
          have e1 : (((er : Nat) : Int) != 0) = true := by simp [h0]
          rw [hE]
          clear hok her hch hE h0
          go_wp2_with (refine wpList_store_ar (.tmp 2) (.tmp 23) rfl rfl B (fun _ => 0) (fun _ => 0) rfl rfl HB_w3.out rfl ?_)
          intro wE hRE kE
          have HE : Hid (ArAt wE B (arCells (fun _ => 0)) ∧ RdAt wE R s ((grp s X).1.pl) ∧ Ch (fun k => k = R) w wE) := ⟨hRE, (HRD.out).ch kE (by have h' := HNE.out.2.2; omega), HCW.out.trans (((HC3.out).mono (T := fun k => k = R ∨ k = G ∨ k = B) (fun _ _ h => by rcases h with h | h <;> simp [h])).trans kE (fun _ _ h => .inr (.inr h))) (fun x hx hT => by have h1 := HNE.out; rcases hT with h | h | h <;> omega)⟩
          clear hRE kE
          go_wp2
          (try simp only [Exit.inBlock, Exit.then])
          refine bodyPost_ret (results_ar_tmp rfl _ _ B (fun _ => 0) rfl HE.out.1) rfl ?_
          exact SixR.no HF.out rfl HE.out.2.1 HE.out.2.2
end Go.Proofs.YteldiggaooeeeaaGreatDoor
namespace Go.Proofs.YteldiggaooeeeaaGreatDoor
open Go.RowKit Go.Maps

def setL (C : Array Value) : Nat → List Value → Array Value
  | _, [] => C
  | o, v :: vs => setL (C.setIfInBounds o v) (o + 1) vs
theorem heap_setCells (O : Nat) (t : TypeId) : ∀ (vs : List Value) (o : Nat) (w : World) (C : Array Value), w.heap[O]? = some (.cells C t (0, 0)) → (w.setCells O o vs).heap[O]? = some (.cells (setL C o vs) t (0, 0))
  | [], _, _, _, h => by simpa [World.setCells, setL] using h
  | v :: vs, o, w, C, h => by
    have e : w.setCells O o (v :: vs) = (w.setCell ⟨O, o, none⟩ v).setCells O (o + 1) vs := rfl
    rw [e]
    exact heap_setCells O t vs (o + 1) _ _ (heap_setCell_same w O o C t v h)
theorem ch_setCells4 (w : World) (g : Nat) : ∀ (vs : List Value) (o : Nat), Ch (fun q => q = g) w (w.setCells g o vs) := by
  intro vs
  induction vs generalizing w with
  | nil => intro o; simpa [World.setCells] using Ch.refl (fun q => q = g) w
  | cons v vs ih =>
    intro o
    have e : w.setCells g o (v :: vs) = (w.setCell ⟨g, o, none⟩ v).setCells g (o + 1) vs := rfl
    rw [e]
    exact ((Ch.refl (fun q => q = g) w).set ⟨g, o, none⟩ v rfl).trans (ih _ _) (fun _ _ h => h)
theorem setL_ip (V : Int) (f g : Nat → Nat) : setL (ipCells V f) 1 (arCells g).toList = ipCells V g := by kernel_rfl
theorem wpList_store_ipA {ops : Array Oper} {rest : List Oper} {o : Oper} {a : Act} {w : World} {Q : Exit → Act → World → Prop} (x y : Operand) (ho : o.op = .store 26 x y) (hd : o.dst = none) (O : Nat) (V : Int) (f g : Nat → Nat) (hx : a.eval x = .pointer (some ⟨O, 1, none⟩)) (hy : a.eval y = .agg (arCells g)) (hb : IprAt w O V f)
    (hw : Region.wanted o (yielded ops a.tmps) = true) (hh : ∀ w', IprAt w' O V g → Ch (fun q => q = O) w w' → wpList Tryz.prog ops Q rest a w') : wpList Tryz.prog ops Q (o :: rest) a w := by
  refine wpList_step fun K hK => ?_
  rw [if_pos hw]
  refine wp_store_mid 26 x y ho O 1 (arCells g) hx hy (fun j hj => ⟨by rw [hb.byte j hj]; rfl, hb.fz _⟩) Tryz.sizeAr (by simp [arCells, Value.oneCell']) (hK _ _ ?_)
  rw [hd]
  refine hh _ ?_ (ch_setCells4 w O _ 1)
  have h := heap_setCells O 28 (arCells g).toList 1 w _ hb
  rw [setL_ip] at h
  exact h
set_option maxHeartbeats 1600000 in
set_option maxRecDepth 100000 in
theorem parseIP_long (s : ByteArray) (w : World) (hs : 45 < s.size) : Calls Tryz.prog 9 #[.string s] w fun r w' => r = .returned (ipO (pIP s)) ∧ Below w.heap.size w w' := by
  have HP : Hid (pIP s = .inr (2, 45)) := by show _ = _; unfold pIP; rw [if_pos hs]
  have q0 : decide ((45 : Int) < (s.size : Int)) = true := decide_eq_true (by omega)
  have q1 : decide (45 < s.size) = true := decide_eq_true hs
  have q2 : (45 : Int) < (s.size : Int) := by omega
  have HN : Hid (IprAt (w.alloc (.cells (ipCells 0 (fun _ => 0)) 28)) w.heap.size 0 (fun _ => 0) ∧ Below w.heap.size w (w.alloc (.cells (ipCells 0 (fun _ => 0)) 28))) := ⟨ipr_new w 0 (fun _ => 0), (Below.refl _ _).alloc (Nat.le_refl _) _⟩
  clear hs
  go_enter Tryz.func9, Tryz.ntmps9
  go_wp2_with (refine wpList_store_ipr (.tmp 2) (.tmp 11) rfl rfl w.heap.size 0 (fun _ => 0) 0 (fun _ => 0) rfl rfl HN.out.1 rfl ?_)
  intro wE hRE kE
  have HE : Hid (IprAt wE w.heap.size 0 (fun _ => 0) ∧ Below w.heap.size w wE) := ⟨hRE, HN.out.2.trans (kE.below (fun q h => by have h' : q = w.heap.size := h; omega) HN.out.2.size)⟩
  clear hRE kE
  go_wp2
  (try simp only [Exit.inBlock, Exit.then])
  refine bodyPost_ret (results_ipr_tmp2 rfl _ _ w.heap.size 0 _ rfl HE.out.1) rfl ?_
  exact ⟨by rw [HP.out]; rfl, HE.out.2⟩
set_option maxHeartbeats 1600000 in
set_option maxRecDepth 100000 in
theorem parse6_any (s : ByteArray) (w : World) (hs : s.size ≤ 45) (h4 : hsB s 58 = true) : Calls Tryz.prog 9 #[.string s] w fun r w' => r = .returned (ipO (pIP s)) ∧ Below w.heap.size w w' := by
  have HS : Hid (s.size ≤ 45) := hs
  have H4 : Hid (hsB s 58 = true) := h4
  have q0 : decide ((45 : Int) < (s.size : Int)) = false := decide_eq_false (by omega)
  have q1 : decide (45 < s.size) = false := decide_eq_false (by omega)
  clear hs h4
  obtain ⟨W, hW⟩ : ∃ W_, W_ = wl3 w s := ⟨_, rfl⟩
  obtain ⟨B, hB⟩ : ∃ B, B = w.heap.size := ⟨_, rfl⟩
  have HIP : Hid (IprAt W B 0 (fun _ => 0) ∧ RdAt W (B + 1) s 0 ∧ IprAt W (B + 1 + 1) 0 (fun _ => 0) ∧ Below w.heap.size w W) := by rw [hW, hB]; exact wl3_at w s
  have HBW : Hid (w.heap.size = B) := hB.symm
  have HW : Hid ((((w.alloc (.cells #[.int .i64 0, .int .u8 0, .int .u8 0, .int .u8 0, .int .u8 0, .int .u8 0, .int .u8 0, .int .u8 0, .int .u8 0, .int .u8 0, .int .u8 0, .int .u8 0, .int .u8 0, .int .u8 0, .int .u8 0, .int .u8 0, .int .u8 0] 28)).alloc (.cells #[.string s, .int .i64 0] 45)).alloc (.cells #[.int .i64 0, .int .u8 0, .int .u8 0, .int .u8 0, .int .u8 0, .int .u8 0, .int .u8 0, .int .u8 0, .int .u8 0, .int .u8 0, .int .u8 0, .int .u8 0, .int .u8 0, .int .u8 0, .int .u8 0, .int .u8 0, .int .u8 0] 28)) = W) := hW.symm
  clear hW hB
  go_enter Tryz.func9, Tryz.ntmps9
  go_wp2_with fail
  rw [HBW.out, HW.out]
  refine (con_any s 58 W).mono ?_
  rintro e W ⟨rfl, rfl⟩
  rw [idx_hs, H4.out]
  have k0 : W.cell? ⟨B + 1 + 1, 0, none⟩ = some (.int .i64 0) := HIP.out.2.2.1.cell 0
  have f0 : W.frozen? ⟨B + 1 + 1, 0, none⟩ = false := HIP.out.2.2.1.fz 0
  obtain ⟨W1, hW1⟩ : ∃ W1, W1 = W.setCell ⟨B + 1 + 1, 0, none⟩ (.int .i64 6) := ⟨_, rfl⟩
  have H1 : Hid (IprAt W1 B 0 (fun _ => 0) ∧ RdAt W1 (B + 1) s 0 ∧ IprAt W1 (B + 1 + 1) 6 (fun _ => 0) ∧ Below w.heap.size w W1) := by
    have c1 : Ch (fun k => k = B + 1 + 1) W W1 := by rw [hW1]; exact (Ch.refl _ _).set _ _ rfl
    refine ⟨HIP.out.1.ch c1 (by omega), HIP.out.2.1.ch c1 (by omega), ?_, HIP.out.2.2.2.trans (c1.below (fun q h => by have := HBW.out; omega) HIP.out.2.2.2.size)⟩
    rw [hW1]
    have h0 := HIP.out.2.2.1
    unfold IprAt at h0 ⊢
    rw [heap_setCell_same W (B + 1 + 1) 0 _ _ _ h0]
    rfl
  have HW1 : Hid (W.setCell ⟨B + 1 + 1, 0, none⟩ (.int .i64 6) = W1) := hW1.symm
  clear hW1
  go_wp2_with fail
  rw [HW1.out]
  refine (six_any (B + 1) s W1 H1.out.2.1 (by have := HS.out; omega)).mono ?_
  rintro e w1 ⟨hf, hch⟩
  have H5 : Hid (IprAt w1 B 0 (fun _ => 0) ∧ IprAt w1 (B + 1 + 1) 6 (fun _ => 0) ∧ Below w.heap.size w w1) := ⟨H1.out.1.ch hch (by omega), H1.out.2.2.1.ch hch (by omega), H1.out.2.2.2.trans (hch.below (fun q h => by have := HBW.out; omega) H1.out.2.2.2.size)⟩
  clear hch k0 f0
  have hpi := pIP_six HS.out H4.out
  cases hd : sxR (sxL s) s.size with
  | inr er =>
    rw [hd] at hf hpi
    obtain ⟨rfl, hrd⟩ := hf
    obtain ⟨e1, e2⟩ := er
    have hne : e1 ≠ 0 := by
      unfold sxR at hd
      split at hd
      · rename_i hq
        injection hd with hd
        injection hd with h1 h2
        rw [← h1]
        exact hq
      · split at hd
        · injection hd with hd
          injection hd with h1 h2
          omega
        · cases hd
    have HP : Hid (pIP s = .inr (e1, e2)) := hpi
    have q2 : (((e1 : Nat) : Int) != 0) = true := by simp; omega
    have HRD0 : Hid (RdAt w1 (B + 1) s e2) := hrd
    clear hd hne hrd hpi
    go_wp2_with (refine wpList_store_ipA (.tmp 22) (.tmp 20) rfl rfl (B + 1 + 1) 6 (fun _ => 0) (fun _ => 0) rfl rfl H5.out.2.1 rfl ?_)
    intro w2 hRE kE
    have H2 : Hid (IprAt w2 B 0 (fun _ => 0) ∧ Below w.heap.size w w2) := ⟨H5.out.1.ch kE (by omega), H5.out.2.2.trans (kE.below (fun q h => by have h' : q = B + 1 + 1 := h; have := HBW.out; omega) H5.out.2.2.size)⟩
    have HRD : Hid (RdAt w2 (B + 1) s e2) := HRD0.out.ch kE (by omega)
    clear hRE kE
    go_wp2_with fail
    refine MixH.start (fun A => IprAt A B 0 (fun _ => 0) ∧ RdAt A (B + 1) s e2 ∧ Below w.heap.size w A) (by kernel_rfl) ?_
    obtain ⟨wA, hwA⟩ : ∃ W_, W_ = w2.drew := ⟨_, rfl⟩
    have bdr : Below w2.heap.size w2 wA := by rw [hwA]; exact (Below.refl _ _).drew
    have hS : IprAt wA B 0 (fun _ => 0) ∧ RdAt wA (B + 1) s e2 ∧ Below w.heap.size w wA := ⟨H2.out.1.below bdr, HRD.out.below bdr, H2.out.2.trans (bdr.mono H2.out.2.size)⟩
    rw [← hwA]
    clear hwA bdr
    refine MixH.takes [true, true, true] 4 (by kernel_rfl) (by kernel_rfl) (by decide) (by kernel_rfl) hS (fun K hK => ?_)
    simp only [Mix.pick]
    repeat (go_big_quiet_step (fail))
    refine wpQuiet_nil (hK _ ?_)
    clear hK K
    refine MixH.take 3 3 _ (.int .i64 (e2 : Nat)) rfl (by kernel_rfl) (by kernel_rfl) (by kernel_rfl) (by kernel_rfl) (yields_int (.tmp 31) rfl ⟨B + 1, 1, none⟩ (.int .i64 (e2 : Nat)) rfl rfl (fun A hA => hA.2.1.c1)) hS (fun a' ha => ?_)
    simp only [Act.put, List.setIfInBounds_toArray, List.set_cons_succ, List.set_cons_zero] at ha
    subst ha
    refine MixH.one [false, false, false, false, true] 2 4 _ rfl rfl (by kernel_rfl) (by kernel_rfl) (fun K hK => ?_)
    simp only [Mix.pick]
    go_wp2_with (refine wpList_store_ipr (.tmp 2) (.tmp 29) rfl rfl B 0 (fun _ => 0) 0 (fun _ => 0) rfl rfl hS.1 rfl ?_)
    intro wE hRE kE
    have hS : IprAt wE B 0 (fun _ => 0) ∧ RdAt wE (B + 1) s e2 ∧ Below w.heap.size w wE := ⟨hRE, hS.2.1.ch kE (by omega), hS.2.2.trans (kE.below (fun q h => by have h' : q = B := h; have := HBW.out; omega) hS.2.2.size)⟩
    clear hRE kE
    go_wp2_with fail
    refine ⟨rfl, hK _ _ hS ?_⟩
    clear hK K
    refine MixH.takes [false, false, false, false, false, true, true] 0 (by kernel_rfl) (by kernel_rfl) (by decide) (by kernel_rfl) hS (fun K hK => ?_)
    simp only [Mix.pick]
    repeat (go_big_quiet_step (fail))
    refine wpQuiet_nil (hK _ ?_)
    clear hK K
    refine MixH.done (by kernel_rfl) ?_
    have HS2 : Hid (IprAt wE B 0 (fun _ => 0) ∧ RdAt wE (B + 1) s e2 ∧ Below w.heap.size w wE) := hS
    clear hS
    go_wp2
    (try simp only [Exit.inBlock, Exit.then])
    refine bodyPost_ret (results_ipr_tmp2 rfl _ _ B 0 _ rfl HS2.out.1) rfl ?_
    exact ⟨by rw [HP.out]; rfl, HS2.out.2.2⟩
  | inl x =>
    rw [hd] at hf hpi
    obtain rfl := hf
    have HP : Hid (pIP s = .inl (6, x)) := hpi
    clear hd hpi
    go_wp2_with (refine wpList_store_ipA (.tmp 22) (.tmp 20) rfl rfl (B + 1 + 1) 6 (fun _ => 0) x rfl rfl H5.out.2.1 rfl ?_)
    intro w2 hRE kE
    have H2 : Hid (IprAt w2 B 0 (fun _ => 0) ∧ IprAt w2 (B + 1 + 1) 6 x ∧ Below w.heap.size w w2) := ⟨H5.out.1.ch kE (by omega), hRE, H5.out.2.2.trans (kE.below (fun q h => by have h' : q = B + 1 + 1 := h; have := HBW.out; omega) H5.out.2.2.size)⟩
    clear hRE kE
    go_wp2_with (first | (refine wpList_load_ipr (.tmp 6) rfl (B + 1 + 1) 6 x rfl H2.out.2.1 rfl ?_) | (refine wpList_store_ipr (.tmp 2) (.tmp 33) rfl rfl B 0 (fun _ => 0) 6 x rfl rfl H2.out.1 rfl ?_))
    intro wE hRE kE
    have HE : Hid (IprAt wE B 6 x ∧ Below w.heap.size w wE) := ⟨hRE, H2.out.2.2.trans (kE.below (fun q h => by have h' : q = B := h; have := HBW.out; omega) H2.out.2.2.size)⟩
    clear hRE kE
    go_wp2
    (try simp only [Exit.inBlock, Exit.then])
    refine bodyPost_ret (results_ipr_tmp2 rfl _ _ B 6 _ rfl HE.out.1) rfl ?_
    exact ⟨by rw [HP.out]; rfl, HE.out.2⟩
theorem parseIP_any (s : ByteArray) (w : World) : Calls Tryz.prog 9 #[.string s] w fun r w' => r = .returned (ipO (pIP s)) ∧ Below w.heap.size w w' := by
  by_cases h1 : s.size ≤ 45
  · cases h2 : hsB s 58 with
    | true => exact parse6_any s w h1 h2
    | false => exact parse4_any s w h1 h2
  · exact parseIP_long s w (by omega)
end Go.Proofs.YteldiggaooeeeaaGreatDoor
