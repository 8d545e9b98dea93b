/-
  R4g R4h: lemmas of the proof of FlowPlays, and walks through the functions that it calls.
-/
import Derived.Test.YtclpeepnngegaaaGreatDoorP00
import Derived.Test.YtclpeepnngegaaaGreatDoorP05
import Derived.Test.YtclpeepnngegaaaGreatDoorP16
namespace Go.Proofs.YtclpeepnngegaaaGreatDoor
open Go.RowKit Go.Maps
structure SX where
  g : List Nat
  gap : Int
  p : Nat
  er : Nat
  pl : Nat
def SX.fail (X : SX) (e a : Nat) : SX := if X.er == 0 then { X with er := e, pl := a } else X
def sxC (s : ByteArray) (lv : Value) (X : SX) : Array Value := #[.string s, lv, .int .i64 X.gap, .int .i64 (X.p : Nat), .int .i64 (X.er : Nat), .int .i64 (X.pl : Nat)]
structure SxAt (w : World) (R : Nat) (s : ByteArray) (lv : Value) (X : SX) : Prop where
  blk : w.heap[R]? = some (.cells (sxC s lv X) 160 (0, 0))
  own : w.ownsRow (R + 1) 3 1 lv X.g.length (X.g.map fun n => Value.int .i64 (n : Nat))
section
variable {w : World} {R : Nat} {s : ByteArray} {lv : Value} {X : SX} (k : SxAt w R s lv X)
include k
theorem SxAt.lt : R < w.heap.size := (Array.getElem?_eq_some_iff.1 k.blk).1
theorem SxAt.cell (i : Nat) : w.cell? ⟨R, i, none⟩ = (sxC s lv X)[i]? := by have := k.blk; simp [World.cell?, this]
theorem SxAt.c0 : w.cell? ⟨R, 0, none⟩ = some (.string s) := k.cell 0
theorem SxAt.c1 : w.cell? ⟨R, 1, none⟩ = some lv := k.cell 1
theorem SxAt.c2 : w.cell? ⟨R, 2, none⟩ = some (.int .i64 X.gap) := k.cell 2
theorem SxAt.c3 : w.cell? ⟨R, 3, none⟩ = some (.int .i64 (X.p : Nat)) := k.cell 3
theorem SxAt.c4 : w.cell? ⟨R, 4, none⟩ = some (.int .i64 (X.er : Nat)) := k.cell 4
theorem SxAt.c5 : w.cell? ⟨R, 5, none⟩ = some (.int .i64 (X.pl : Nat)) := k.cell 5
theorem SxAt.fz (j : Nat) : w.frozen? ⟨R, j, none⟩ = false := by have := k.blk; simp [World.frozen?, this]
theorem SxAt.ch {S : Nat → Prop} {w' : World} (c : Ch S w w') (hR : ¬ S R) (hS : ∀ q, R < q → ¬ S q) : SxAt w' R s lv X :=
 ⟨(c.block R k.lt hR).trans k.blk, c.owns k.own (fun g hg => hS g (k.own.lt g hg).1)⟩
theorem SxAt.below {w' : World} (c : Below w.heap.size w w') : SxAt w' R s lv X := k.ch (Ch.ofBelow (S := fun _ => False) c) (fun h => h) (fun _ _ h => h)
theorem SxAt.set (i : Nat) (v : Value) {X' : SX} (hg : X'.g = X.g) (hC : (sxC s lv X).setIfInBounds i v = sxC s lv X') : SxAt (w.setCell ⟨R, i, none⟩ v) R s lv X' := by
 refine ⟨?_, ?_⟩
 · rw [heap_setCell_same w R i _ _ v k.blk, hC]
 · rw [hg]
   exact ((Ch.refl (fun q => q = R) w).set ⟨R, i, none⟩ v rfl).owns k.own (fun g h1 h2 => by have := (k.own.lt g h1).1; omega)
end
set_option maxHeartbeats 1600000 in
set_option maxRecDepth 100000 in
theorem fail_any (R : Nat) (s : ByteArray) (lv : Value) (X : SX) (e a : Nat) (w : World) (h : SxAt w R s lv X) : Calls Tryz.prog 103 #[.pointer (some ⟨R, 0, none⟩), .int .i64 (e : Nat), .int .i64 (a : Nat)] w fun r w' => r = .returned (.tuple #[]) ∧ SxAt w' R s lv (X.fail e a) ∧ Ch (fun q => q = R) w w' := by
 have HH : Hid (SxAt w R s lv X) := h
 have c4 := h.c4
 have f4 := h.fz 4
 have H1 : Hid (SxAt (w.setCell ⟨R, 4, none⟩ (.int .i64 (e : Nat))) R s lv { X with er := e }) := h.set 4 _ rfl rfl
 have f5 := H1.out.fz 5
 have c5 := H1.out.c5
 have H2 : Hid (SxAt ((w.setCell ⟨R, 4, none⟩ (.int .i64 (e : Nat))).setCell ⟨R, 5, none⟩ (.int .i64 (a : Nat))) R s lv { X with er := e, pl := a }) := H1.out.set 5 _ rfl rfl
 clear h
 go_enter Tryz.func103, Tryz.ntmps103
 by_cases he : X.er = 0
 · have q1 : (((X.er : Nat) : Int) == 0) = true := by simp [he]
   have HR : Hid (X.fail e a = { X with er := e, pl := a }) := by show _ = _; unfold SX.fail; rw [he]; rfl
   clear he
   go_wp2
   refine bodyPost_end (results_none rfl _ _ _) rfl ?_
   exact ⟨rfl, by rw [HR.out]; exact H2.out, ((Ch.refl (fun q => q = R) w).set ⟨R, 4, none⟩ _ rfl).set ⟨R, 5, none⟩ _ rfl⟩
 · have q1 : (((X.er : Nat) : Int) == 0) = false := by simp [he]
   have HR : Hid (X.fail e a = X) := by show _ = _; unfold SX.fail; rw [beq_false_of_ne he]; rfl
   clear he
   go_wp2
   refine bodyPost_end (results_none rfl _ _ _) rfl ?_
   exact ⟨rfl, by rw [HR.out]; exact HH.out, Ch.refl _ w⟩
def rmN (X : SX) : Nat := if decide (0 ≤ X.gap) then 7 else 8
set_option maxHeartbeats 1600000 in
set_option maxRecDepth 100000 in
theorem room_any (R : Nat) (s : ByteArray) (lv : Value) (X : SX) (w : World) (h : SxAt w R s lv X) : Calls Tryz.prog 105 #[.pointer (some ⟨R, 0, none⟩)] w fun r w' => r = .returned (.int .i64 (rmN X : Nat)) ∧ w = w' := by
 have c2 := h.c2
 obtain ⟨g, hg⟩ : ∃ g, X.gap = g := ⟨_, rfl⟩
 have HG : Hid (X.gap = g) := hg
 rw [hg] at c2
 clear h hg
 go_enter Tryz.func105, Tryz.ntmps105
 by_cases he : 0 ≤ g
 · have q1 : decide (0 ≤ g) = true := decide_eq_true he
   have HR : Hid (rmN X = 7) := by show _ = _; unfold rmN; rw [HG.out, q1]; rfl
   clear he
   go_wp2
   go_ret
   exact ⟨by rw [HR.out]; rfl, rfl⟩
 · have q1 : decide (0 ≤ g) = false := decide_eq_false he
   have HR : Hid (rmN X = 8) := by show _ = _; unfold rmN; rw [HG.out, q1]; rfl
   clear he
   go_wp2
   go_ret
   exact ⟨by rw [HR.out]; rfl, rfl⟩
end Go.Proofs.YtclpeepnngegaaaGreatDoor
namespace Go.Proofs.YtclpeepnngegaaaGreatDoor
open Go.RowKit Go.Maps
theorem yields_str {ops : Array Oper} {o : Oper} {a : Act} {S : World → Prop} (x : Operand) (ho : o.op = .load 9 x) (p : Addr) (u : Value) (hx : a.eval x = .pointer (some p)) (hw : Region.wanted o (yielded ops a.tmps) = true) (hS : ∀ w, S w → w.cell? p = some u) : YieldsIf Tryz.prog ops S o u a := by
 refine .inl ⟨hw, fun w hb => ?_⟩
 have hc := hS w hb
 have hu := Tryz.underlying9
 obtain ⟨dst, op, type, pos, after, guard⟩ := o
 simp only at ho
 subst ho
 simp only [execOp, Sem.run_bind, Sem.run_pure]
 rw [hx]
 simp [Instr.loadAt, go_sem, hc]
theorem yields_lst {ops : Array Oper} {o : Oper} {a : Act} {S : World → Prop} (x : Operand) (ho : o.op = .load 30 x) (p : Addr) (u : Value) (hx : a.eval x = .pointer (some p)) (hw : Region.wanted o (yielded ops a.tmps) = true) (hS : ∀ w, S w → w.cell? p = some u) : YieldsIf Tryz.prog ops S o u a := by
 refine .inl ⟨hw, fun w hb => ?_⟩
 have hc := hS w hb
 have hu := Tryz.underlying30
 obtain ⟨dst, op, type, pos, after, guard⟩ := o
 simp only at ho
 subst ho
 simp only [execOp, Sem.run_bind, Sem.run_pure]
 rw [hx]
 simp [Instr.loadAt, go_sem, hc]
def btw (s : ByteArray) (X : SX) : SX × Bool :=
 if twB s X.p then (if decide (0 ≤ X.gap) || X.g.length == 8 then (X.fail 44 X.p, false) else ({ X with gap := (X.g.length : Nat), p := X.p + 2 }, X.p + 2 == s.size))
 else if sB s X.p == 58 then ({ X with p := X.p + 1 }, false) else (X.fail 41 X.p, false)
set_option maxHeartbeats 1600000 in
set_option maxRecDepth 100000 in
theorem between_any (R : Nat) (s : ByteArray) (lv : Value) (X : SX) (w : World) (h : SxAt w R s lv X) (hp : X.p < s.size) (hs : s.size ≤ 1000) : Calls Tryz.prog 102 #[.pointer (some ⟨R, 0, none⟩)] w fun r w' => r = .returned (.bool (btw s X).2) ∧ SxAt w' R s lv (btw s X).1 ∧ Ch (fun q => q = R) w w' := by
 obtain ⟨N, hN⟩ : ∃ N, N = X.g.length := ⟨_, rfl⟩
 obtain ⟨a, c, hlv⟩ := owns_shape h.own
 rw [← hN] at hlv
 subst hlv
 have HN : Hid (N = X.g.length) := hN
 obtain ⟨P, hP⟩ : ∃ P, X.p = P := ⟨_, rfl⟩
 have HP : Hid (X.p = P) := hP
 have HP3 : Hid (some (Value.int .i64 ((X.p : Nat) : Int)) = some (Value.int .i64 ((P : Nat) : Int))) := by show _ = _; rw [hP]
 have HPS : Hid (P < s.size) := by show P < s.size; rw [← hP]; exact hp
 have HS : Hid (s.size ≤ 1000) := hs
 obtain ⟨G, hG⟩ : ∃ G, X.gap = G := ⟨_, rfl⟩
 have HG : Hid (X.gap = G) := hG
 have H0 : Hid (SxAt w R s (.slice a N c) X ∧ Ch (fun q => q = R) w w) := ⟨h, Ch.refl _ _⟩
 obtain ⟨b, hb⟩ : ∃ b, twB s P = b := ⟨_, rfl⟩
 have HB : Hid (twB s P = b) := hb
 clear hN hP hp hs hG h hb
 go_enter Tryz.func102, Tryz.ntmps102
 go_upto_region 1 with fail
 refine MixH.start (fun A => SxAt A R s (.slice a N c) X ∧ Ch (fun q => q = R) w A) (by kernel_rfl) ?_
 obtain ⟨wA, hwA⟩ : ∃ wA, wA = w.drew := ⟨_, rfl⟩
 have bdr := zDr hwA
 have hS : SxAt wA R s (.slice a N c) X ∧ Ch (fun q => q = R) w wA := ⟨H0.out.1.below bdr, H0.out.2.trans (Ch.ofBelow bdr) (fun _ _ h => h)⟩
 rw [← hwA]
 clear hwA bdr
 refine MixH.tks [true, true, true, false, true, true, true] 4 hS (fun K hK => ?_)
 simp only [Mix.pick]
 repeat (go_big_quiet_step (fail))
 refine wpQuiet_nil (hK _ ?_)
 clear hK K
 refine MixH.tk 3 3 rfl (.string s) (yields_str (.tmp 6) rfl ⟨R, 0, none⟩ (.string s) rfl rfl (fun A hA => hA.1.c0)) hS (fun a' ha => ?_)
 simp only [zP1, zP2, zP3, zP4] at ha
 subst ha
 refine MixH.tk 2 7 rfl (.int .i64 (P : Nat)) (yields_int (.tmp 10) rfl ⟨R, 3, none⟩ (.int .i64 (P : Nat)) rfl rfl (fun A hA => hA.1.c3.trans HP3.out)) hS (fun a' ha => ?_)
 simp only [zP1, zP2, zP3, zP4] at ha
 subst ha
 refine MixH.one [false, false, false, false, false, false, false, false, true] 1 8 _ rfl rfl (by kernel_rfl) (by kernel_rfl) (fun K hK => ?_)
 simp only [Mix.pick]
 go_wp2_with fail
 refine Calls.mono (two_any s P wA (by have h1 := HPS.out; have h2 := HS.out; omega)) ?_
 rintro e1 wz ⟨rfl, rfl⟩
 rw [HB.out]
 go_wp2_with fail
 refine ⟨rfl, hK _ _ hS ?_⟩
 clear hK K
 refine MixH.tks [false, false, false, false, false, false, false, false, false, true] 0 hS (fun K hK => ?_)
 simp only [Mix.pick]
 repeat (go_big_quiet_step (fail))
 refine wpQuiet_nil (hK _ ?_)
 clear hK K
 refine MixH.done (by kernel_rfl) ?_
 have H1 : Hid (SxAt wA R s (.slice a N c) X ∧ Ch (fun q => q = R) w wA) := hS
 have c2 : wA.cell? ⟨R, 2, none⟩ = some (.int .i64 G) := by rw [← HG.out]; exact H1.out.1.c2
 have c1 := H1.out.1.c1
 have c3 : wA.cell? ⟨R, 3, none⟩ = some (.int .i64 (P : Nat)) := H1.out.1.c3.trans HP3.out
 clear hS
 cases b with
 | true =>
  by_cases hc : (decide (0 ≤ G) || N == 8) = true
  · have HZ : Hid (btw s X = (X.fail 44 P, false)) := by show _ = _; unfold btw; rw [HP.out, HB.out, HG.out, ← HN.out, hc]; rfl
    by_cases h0 : 0 ≤ G
    · have q1 : decide (0 ≤ G) = true := decide_eq_true h0
      clear hc h0
      go_wp2_with fail
      refine (fail_any R s (.slice a N c) X 44 P wA H1.out.1).mono ?_
      rintro e1 w2 ⟨rfl, k1, k2⟩
      have H2 : Hid (SxAt w2 R s (.slice a N c) (X.fail 44 P) ∧ Ch (fun q => q = R) w w2) := ⟨k1, H1.out.2.trans k2 (fun _ _ h => h)⟩
      clear k1 k2
      go_wp2_with fail
      go_ret
      exact ⟨by rw [HZ.out]; rfl, by rw [HZ.out]; exact H2.out.1, H2.out.2⟩
    · have q1 : decide (0 ≤ G) = false := decide_eq_false h0
      have q2 : (((N : Nat) : Int) == 8) = true := by rw [q1] at hc; simp at hc; simp [hc]
      clear hc h0
      go_wp2_with fail
      refine (fail_any R s (.slice a N c) X 44 P wA H1.out.1).mono ?_
      rintro e1 w2 ⟨rfl, k1, k2⟩
      have H2 : Hid (SxAt w2 R s (.slice a N c) (X.fail 44 P) ∧ Ch (fun q => q = R) w w2) := ⟨k1, H1.out.2.trans k2 (fun _ _ h => h)⟩
      clear k1 k2
      go_wp2_with fail
      go_ret
      exact ⟨by rw [HZ.out]; rfl, by rw [HZ.out]; exact H2.out.1, H2.out.2⟩
  · have hc2 : (decide (0 ≤ G) || N == 8) = false := by simpa using hc
    have HZ : Hid (btw s X = ({ X with gap := (N : Nat), p := P + 2 }, P + 2 == s.size)) := by show _ = _; unfold btw; rw [HP.out, HB.out, HG.out, ← HN.out, hc2]; rfl
    simp at hc2
    have q1 : decide (0 ≤ G) = false := decide_eq_false (by omega)
    have q2 : (((N : Nat) : Int) == 8) = false := by simp; omega
    have q3 : IntKind.i64.wrap ((P : Int) + 2) = (P : Int) + 2 := i64_s _ (by omega) (by have := HPS.out; have := HS.out; omega)
    clear hc hc2
    obtain ⟨w2, hw2⟩ : ∃ w2, w2 = wA.setCell ⟨R, 2, none⟩ (.int .i64 (N : Nat)) := ⟨_, rfl⟩
    have H2 : Hid (SxAt w2 R s (.slice a N c) { X with gap := (N : Nat) } ∧ Ch (fun q => q = R) w w2) := by rw [hw2]; exact ⟨H1.out.1.set 2 _ rfl rfl, H1.out.2.set ⟨R, 2, none⟩ _ rfl⟩
    have f2 := H1.out.1.fz 2
    have f3 := H2.out.1.fz 3
    have d3 : w2.cell? ⟨R, 3, none⟩ = some (.int .i64 (P : Nat)) := H2.out.1.c3.trans HP3.out
    obtain ⟨Q, hQ⟩ : ∃ Q : Nat, Q = P + 2 := ⟨_, rfl⟩
    have HQ : Hid (Q = P + 2) := hQ
    have q5 : (P : Int) + 2 = (Q : Int) := by omega
    rw [q5] at q3
    obtain ⟨w3, hw3⟩ : ∃ w3, w3 = w2.setCell ⟨R, 3, none⟩ (.int .i64 (Q : Nat)) := ⟨_, rfl⟩
    have H3 : Hid (SxAt w3 R s (.slice a N c) { X with gap := (N : Nat), p := Q } ∧ Ch (fun q => q = R) w w3) := by rw [hw3]; exact ⟨H2.out.1.set 3 _ rfl rfl, H2.out.2.set ⟨R, 3, none⟩ _ rfl⟩
    have HW2 : Hid (wA.setCell ⟨R, 2, none⟩ (.int .i64 (N : Nat)) = w2) := hw2.symm
    have HW3 : Hid (w2.setCell ⟨R, 3, none⟩ (.int .i64 (Q : Nat)) = w3) := hw3.symm
    clear hw2 hw3 hQ
    go_upto_region 7 with fail
    rw [HW2.out]
    clear f2 c1 c2 c3
    go_upto_region 8 with fail
    rw [HW3.out]
    refine MixH.start (fun A => SxAt A R s (.slice a N c) { X with gap := (N : Nat), p := Q } ∧ Ch (fun q => q = R) w A) (by kernel_rfl) ?_
    obtain ⟨wB, hwA⟩ : ∃ wB, wB = w3.drew := ⟨_, rfl⟩
    have bdr := zDr hwA
    have hS : SxAt wB R s (.slice a N c) { X with gap := (N : Nat), p := Q } ∧ Ch (fun q => q = R) w wB := ⟨H3.out.1.below bdr, H3.out.2.trans (Ch.ofBelow bdr) (fun _ _ h => h)⟩
    rw [← hwA]
    clear hwA bdr
    refine MixH.tks [true, true, true, false, true, true, true] 5 hS (fun K hK => ?_)
    simp only [Mix.pick]
    repeat (go_big_quiet_step (fail))
    refine wpQuiet_nil (hK _ ?_)
    clear hK K
    refine MixH.tk 4 3 rfl (.int .i64 (Q : Nat)) (yields_int (.tmp 62) rfl ⟨R, 3, none⟩ (.int .i64 (Q : Nat)) rfl rfl (fun A hA => hA.1.c3)) hS (fun a' ha => ?_)
    simp only [zP1, zP2, zP3, zP4] at ha
    subst ha
    refine MixH.tk 3 7 rfl (.string s) (yields_str (.tmp 66) rfl ⟨R, 0, none⟩ (.string s) rfl rfl (fun A hA => hA.1.c0)) hS (fun a' ha => ?_)
    simp only [zP1, zP2, zP3, zP4] at ha
    subst ha
    refine MixH.tks [false, false, false, false, false, false, false, false, true, true, true] 0 hS (fun K hK => ?_)
    simp only [Mix.pick]
    repeat (go_big_quiet_step (fail))
    refine wpQuiet_nil (hK _ ?_)
    clear hK K
    refine MixH.done (by kernel_rfl) ?_
    have H4 : Hid (SxAt wB R s (.slice a N c) { X with gap := (N : Nat), p := Q } ∧ Ch (fun q => q = R) w wB) := hS
    clear hS
    go_wp2_with fail
    go_ret
    exact ⟨by rw [HZ.out, ← HQ.out]; rw [← Bool.eq_iff_iff.2 (show ((Q : Int) == (s.size : Int)) = true ↔ (Q == s.size) = true by simp; omega)]; rfl, by rw [HZ.out, ← HQ.out]; exact H4.out.1, H4.out.2⟩
 | false =>
  have c0 := H1.out.1.c0
  go_upto_region 9 with fail
  refine MixH.start (fun A => SxAt A R s (.slice a N c) X ∧ Ch (fun q => q = R) w A) (by kernel_rfl) ?_
  obtain ⟨wB, hwA⟩ : ∃ wB, wB = wA.drew := ⟨_, rfl⟩
  have bdr := zDr hwA
  have hS : SxAt wB R s (.slice a N c) X ∧ Ch (fun q => q = R) w wB := ⟨H1.out.1.below bdr, H1.out.2.trans (Ch.ofBelow bdr) (fun _ _ h => h)⟩
  rw [← hwA]
  clear hwA bdr
  refine MixH.tks [true, true, true, false, true, true, true] 5 hS (fun K hK => ?_)
  simp only [Mix.pick]
  repeat (go_big_quiet_step (fail))
  refine wpQuiet_nil (hK _ ?_)
  clear hK K
  refine MixH.tk 4 3 rfl (.string s) (yields_str (.tmp 73) rfl ⟨R, 0, none⟩ (.string s) rfl rfl (fun A hA => hA.1.c0)) hS (fun a' ha => ?_)
  simp only [zP1, zP2, zP3, zP4] at ha
  subst ha
  refine MixH.tk 3 7 rfl (.int .i64 (P : Nat)) (yields_int (.tmp 77) rfl ⟨R, 3, none⟩ (.int .i64 (P : Nat)) rfl rfl (fun A hA => hA.1.c3.trans HP3.out)) hS (fun a' ha => ?_)
  simp only [zP1, zP2, zP3, zP4] at ha
  subst ha
  refine MixH.one [false, false, false, false, false, false, false, false, true] 2 8 _ rfl rfl (by kernel_rfl) (by kernel_rfl) (fun K hK => ?_)
  simp only [Mix.pick]
  refine wpList_sB (.tmp 74) (.tmp 78) rfl s P _ rfl rfl rfl HPS.out rfl ?_
  go_wp2_with fail
  refine ⟨rfl, hK _ _ hS ?_⟩
  clear hK K
  refine MixH.tks [false, false, false, false, false, false, false, false, false, true, true] 0 hS (fun K hK => ?_)
  simp only [Mix.pick]
  repeat (go_big_quiet_step (fail))
  refine wpQuiet_nil (hK _ ?_)
  clear hK K
  refine MixH.done (by kernel_rfl) ?_
  have H2 : Hid (SxAt wB R s (.slice a N c) X ∧ Ch (fun q => q = R) w wB) := hS
  have d3 : wB.cell? ⟨R, 3, none⟩ = some (.int .i64 (P : Nat)) := H2.out.1.c3.trans HP3.out
  have f3 := H2.out.1.fz 3
  clear hS c0 c1 c2 c3
  by_cases hc : sB s P = 58
  · have q1 : (((sB s P : Nat) : Int) == 58) = true := by simp [hc]
    have q2 : (sB s P == 58) = true := by simp [hc]
    have HZ : Hid (btw s X = ({ X with p := P + 1 }, false)) := by show _ = _; unfold btw; rw [HP.out, HB.out, q2]; rfl
    have q3 : IntKind.i64.wrap ((P : Int) + 1) = (P : Int) + 1 := i64_s _ (by omega) (by have := HPS.out; have := HS.out; omega)
    obtain ⟨w3, hw3⟩ : ∃ w3, w3 = wB.setCell ⟨R, 3, none⟩ (.int .i64 (P + 1 : Nat)) := ⟨_, rfl⟩
    have H3 : Hid (SxAt w3 R s (.slice a N c) { X with p := P + 1 } ∧ Ch (fun q => q = R) w w3) := by rw [hw3]; exact ⟨H2.out.1.set 3 _ rfl rfl, H2.out.2.set ⟨R, 3, none⟩ _ rfl⟩
    have HW3 : Hid (wB.setCell ⟨R, 3, none⟩ (.int .i64 ((P : Int) + 1)) = w3) := by show _ = _; rw [hw3]; rfl
    clear hc hw3
    go_wp2_with fail
    go_ret
    rw [HW3.out]
    exact ⟨by rw [HZ.out]; rfl, by rw [HZ.out]; exact H3.out.1, H3.out.2⟩
  · have q1 : (((sB s P : Nat) : Int) == 58) = false := by simp; omega
    have q2 : (sB s P == 58) = false := by simp [hc]
    have HZ : Hid (btw s X = (X.fail 41 P, false)) := by show _ = _; unfold btw; rw [HP.out, HB.out, q2]; rfl
    clear hc
    go_wp2_with fail
    refine (fail_any R s (.slice a N c) X 41 P wB H2.out.1).mono ?_
    rintro e1 w3 ⟨rfl, k1, k2⟩
    have H3 : Hid (SxAt w3 R s (.slice a N c) (X.fail 41 P) ∧ Ch (fun q => q = R) w w3) := ⟨k1, H2.out.2.trans k2 (fun _ _ h => h)⟩
    clear k1 k2
    go_wp2_with fail
    go_ret
    exact ⟨by rw [HZ.out]; rfl, by rw [HZ.out]; exact H3.out.1, H3.out.2⟩
end Go.Proofs.YtclpeepnngegaaaGreatDoor
