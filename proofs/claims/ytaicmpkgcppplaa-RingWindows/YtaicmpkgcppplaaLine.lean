/-
  Package ring's line: a ring of numbers, first in, first out.
-/
import Derived.Test.YtaicmpkgcppplaaPSplit
import Derived.Test.YtaicmpkgcppplaaMix
import Derived.Deep.DeepCutAuto
namespace Go.Proofs.Ytaicmpkgcppplaa
open Go.RowKit

/-- the numbers' values -/
def nV (l : List Nat) : List Value := l.map (fun x : Nat => .int .i64 (x : Int))
theorem nV_len (l : List Nat) : (nV l).length = l.length := by simp [nV]
theorem nV_get (l : List Nat) (i : Nat) (h : i < l.length) : (nV l)[i]? = some (.int .i64 (l[i] : Int)) := by simp [nV, h]
/-- a line at P, o: its slots in the block g, n of them; those who stand in it: q -/
structure LineAt (w : World) (P o g n : Nat) (q : List Nat) (first : Nat) (S : List Nat) : Prop where
  c0 : w.cell? ⟨P, o, none⟩ = some (.slice (some ⟨g, 0, none⟩) n n)
  c1 : w.cell? ⟨P, o + 1, none⟩ = some (.int .i64 first)
  c2 : w.cell? ⟨P, o + 2, none⟩ = some (.int .i64 q.length)
  fz : ∀ j, w.frozen? ⟨P, j, none⟩ = false
  row : w.ownsRow 0 3 1 (.slice (some ⟨g, 0, none⟩) n n) n (nV S)
  pos : 0 < n
  nb : n ≤ 100000
  fl : first < n
  ql : q.length ≤ n
  at' : ∀ k (hk : k < q.length), S[(first + k) % n]? = some q[k]
  ne : g ≠ P
theorem LineAt.Slen {w : World} {P o g n : Nat} {q : List Nat} {first : Nat} {S : List Nat} (h : LineAt w P o g n q first S) : S.length = n := by have := h.row.1; rw [nV_len] at this; omega
theorem LineAt.ch {S' : Nat → Prop} {w w' : World} {P o g n : Nat} {q : List Nat} {first : Nat} {S : List Nat} (h : LineAt w P o g n q first S) (k : Ch S' w w') (hP : ¬ S' P) (hg : ¬ S' g) : LineAt w' P o g n q first S :=
  ⟨k.cell h.c0 hP, k.cell h.c1 hP, k.cell h.c2 hP, fun j => (k.frozen (p := ⟨P, j, none⟩) (show P < w.heap.size from World.block_lt_of_cell? w ⟨P, o, none⟩ h.c0) hP).trans (h.fz j), k.owns h.row (fun x hx e => hg (by simp [Value.ownBlock] at hx; rw [hx]; exact e)), h.pos, h.nb, h.fl, h.ql, h.at', h.ne⟩
/-- another line of the same struct: its own cells stand -/
theorem LineAt.beside {S' : Nat → Prop} {w w' : World} {P o g n : Nat} {q : List Nat} {first : Nat} {S : List Nat} (h : LineAt w P o g n q first S) (k : Ch S' w w') (hg : ¬ S' g) (hc : ∀ j, o ≤ j → j ≤ o + 2 → w'.cell? ⟨P, j, none⟩ = w.cell? ⟨P, j, none⟩) (hf : ∀ j, w'.frozen? ⟨P, j, none⟩ = false) : LineAt w' P o g n q first S :=
  ⟨(hc o (by omega) (by omega)).trans h.c0, (hc (o + 1) (by omega) (by omega)).trans h.c1, (hc (o + 2) (by omega) (by omega)).trans h.c2, hf, k.owns h.row (fun x hx e => hg (by simp [Value.ownBlock] at hx; rw [hx]; exact e)), h.pos, h.nb, h.fl, h.ql, h.at', h.ne⟩
theorem LineAt.below {w w' : World} {P o g n : Nat} {q : List Nat} {first : Nat} {S : List Nat} (h : LineAt w P o g n q first S) (k : Below w.heap.size w w') : LineAt w' P o g n q first S := h.ch (Ch.ofBelow (S := fun _ => False) k) id id
theorem LineAt.cell {w : World} {P o g n : Nat} {q : List Nat} {first : Nat} {S : List Nat} (h : LineAt w P o g n q first S) (k : Nat) (hk : k < q.length) : w.cell? ⟨g, (first + k) % n, none⟩ = some (.int .i64 (q[k] : Int)) := by
  have hp := h.pos
  have hm : (first + k) % n < n := Nat.mod_lt _ hp
  rw [h.row.cellAt _ (by omega)]
  have := h.at' k hk
  simp [nV, this]

set_option maxHeartbeats 400000 in
theorem full_line (w : World) (P o g n : Nat) (q : List Nat) (first : Nat) (S : List Nat) (h : LineAt w P o g n q first S) :
    Calls Try.prog 30 #[.pointer (some ⟨P, o, none⟩)] w fun e w' => e = .returned (.bool ((q.length : Int) == (n : Int))) ∧ Below w.heap.size w w' := by
  have h0 := h.c0
  have h2 := h.c2
  go_enter Try.func30, Try.ntmps30
  go_wp2
  try go_region
  all_goals
    go_wp2
    go_ret
    exact ⟨rfl, (Below.refl _ _).drew⟩
theorem i64_small (x : Int) (h0 : -1000000 ≤ x) (h1 : x ≤ 1000000) : IntKind.i64.wrap x = x := by simp [IntKind.wrap, IntKind.bits, IntKind.signed]; omega

set_option maxHeartbeats 800000 in
theorem at_line (w : World) (P o g n : Nat) (q : List Nat) (first : Nat) (S : List Nat) (h : LineAt w P o g n q first S) (k : Nat) (hk : k < q.length) :
    Calls Try.prog 33 #[.pointer (some ⟨P, o, none⟩), .int .i64 k] w fun e w' => e = .returned (.int .i64 (q[k] : Int)) ∧ Below w.heap.size w w' := by
  have h0 := h.c0
  have h1 := h.c1
  have hc := h.cell k hk
  have hp := h.pos
  have hnb := h.nb
  have hfl := h.fl
  have hql := h.ql
  obtain ⟨x, hx⟩ : ∃ x, x = q[k] := ⟨_, rfl⟩
  rw [← hx] at hc ⊢
  obtain ⟨m, hm⟩ : ∃ m, m = (first + k) % n := ⟨_, rfl⟩
  rw [← hm] at hc
  have hml : m < n := by rw [hm]; exact Nat.mod_lt _ hp
  have hmI : ((first : Int) + (k : Int)) % (n : Int) = (m : Int) := by rw [hm]; simp
  have hmT : Int.tmod ((first : Int) + (k : Int)) (n : Int) = (m : Int) := by rw [Int.tmod_eq_emod_of_nonneg (by omega)]; exact hmI
  have w1 : IntKind.i64.wrap ((first : Int) + (k : Int)) = (first : Int) + (k : Int) := i64_small _ (by omega) (by omega)
  have n0 : ((n : Int) == 0) = false := beq_eq_false_iff_ne.2 (by omega)
  have m0 : (0 : Int) ≤ (m : Int) := by omega
  have m1 : (m : Int) < (n : Int) := by omega
  have m2 : ((m : Int)).toNat = m := by omega
  clear hx hm hk
  go_enter Try.func33, Try.ntmps33
  go_wp2
  try go_region
  all_goals
    go_wp2
    go_ret
    exact ⟨rfl, (Below.refl _ _).drew⟩
theorem mod_two (f k n : Nat) (hf : f < n) (hk : k ≤ n) : (f + k) % n = if f + k < n then f + k else f + k - n := by
  split
  · exact Nat.mod_eq_of_lt (by assumption)
  · rw [Nat.mod_eq_sub_mod (by omega), Nat.mod_eq_of_lt (by omega)]
theorem mod_ne (f k l n : Nat) (hf : f < n) (hk : k < l) (hl : l < n) : (f + k) % n ≠ (f + l) % n := by
  rw [mod_two f k n hf (by omega), mod_two f l n hf (by omega)]
  split <;> split <;> omega
theorem mod_next (f k n : Nat) : ((f + 1) % n + k) % n = (f + (k + 1)) % n := by
  rw [Nat.mod_add_mod]; congr 1; omega
set_option maxHeartbeats 800000 in
theorem leave_line (w : World) (P o g n : Nat) (x : Nat) (q : List Nat) (first : Nat) (S : List Nat) (h : LineAt w P o g n (x :: q) first S) :
    Calls Try.prog 31 #[.pointer (some ⟨P, o, none⟩)] w fun e w' => e = .returned (.int .i64 (x : Int)) ∧ LineAt w' P o g n q ((first + 1) % n) S ∧ Ch (fun b => b = P) w w' ∧ ∀ j, j ≠ o + 1 → j ≠ o + 2 → w'.cell? ⟨P, j, none⟩ = w.cell? ⟨P, j, none⟩ := by
  have HA : Hid _ := at_line w P o g n (x :: q) first S h 0 (by simp)
  have hp := h.pos
  have hnb := h.nb
  have hfl := h.fl
  have hql := h.ql
  simp only [List.length_cons] at hql
  obtain ⟨m, hm⟩ : ∃ m, m = (first + 1) % n := ⟨_, rfl⟩
  have hml : m < n := by rw [hm]; exact Nat.mod_lt _ hp
  have hmI : ((first : Int) + 1) % (n : Int) = (m : Int) := by rw [hm]; simp
  have hmT : Int.tmod ((first : Int) + 1) (n : Int) = (m : Int) := by rw [Int.tmod_eq_emod_of_nonneg (by omega)]; exact hmI
  have w1' : IntKind.i64.wrap ((first : Int) + 1) = (first : Int) + 1 := i64_small _ (by omega) (by omega)
  have n0 : ((n : Int) == 0) = false := beq_eq_false_iff_ne.2 (by omega)
  rw [← hm]
  have HM : Hid (m = (first + 1) % n) := hm
  obtain ⟨ql, hqle⟩ : ∃ ql, ql = q.length := ⟨_, rfl⟩
  have HQL : Hid (ql = q.length) := hqle
  have hqlb : ql ≤ 100000 := by omega
  clear hm
  go_enter Try.func31, Try.ntmps31
  go_wp2_with fail
  refine Calls.mono HA.out ?_
  rintro e w1 ⟨rfl, hb1⟩
  have h' := h.below hb1
  have hPl : P < w1.heap.size := World.block_lt_of_cell? w1 ⟨P, o, none⟩ h'.c0
  have d0 : w1.drew.cell? ⟨P, o, none⟩ = some (.slice (some ⟨g, 0, none⟩) n n) := h'.c0
  have d1 : w1.drew.cell? ⟨P, o + 1, none⟩ = some (.int .i64 first) := h'.c1
  have d2 : w1.drew.cell? ⟨P, o + 2, none⟩ = some (.int .i64 ((ql : Int) + 1)) := by
    have := h'.c2
    simp only [List.length_cons] at this
    rw [hqle]
    simpa using this
  have f1 : w1.drew.frozen? ⟨P, o + 1, none⟩ = false := h'.fz _
  have f2 : ∀ v, (w1.setCell ⟨P, o + 1, none⟩ v).drew.frozen? ⟨P, o + 2, none⟩ = false := fun v => by show (w1.setCell ⟨P, o + 1, none⟩ v).frozen? _ = false; rw [World.frozen?_setCell]; exact h'.fz _
  have e2 : ∀ v, (w1.setCell ⟨P, o + 1, none⟩ v).drew.cell? ⟨P, o + 2, none⟩ = some (.int .i64 ((ql : Int) + 1)) := fun v => by show (w1.setCell ⟨P, o + 1, none⟩ v).cell? _ = _; rw [World.cell?_setCell_other _ _ _ _ (by simp)]; exact d2
  have hfin : LineAt ((w1.setCell ⟨P, o + 1, none⟩ (.int .i64 (m : Int))).drew.setCell ⟨P, o + 2, none⟩ (.int .i64 (ql : Int))) P o g n q m S := by
    have hne := h'.ne
    have kk : Ch (fun b => b = P) w1 ((w1.setCell ⟨P, o + 1, none⟩ (.int .i64 (m : Int))).drew.setCell ⟨P, o + 2, none⟩ (.int .i64 (ql : Int))) := (((Ch.refl (fun b => b = P) w1).set ⟨P, o + 1, none⟩ _ rfl).drew).set ⟨P, o + 2, none⟩ _ rfl
    refine ⟨?_, ?_, ?_, fun j => ?_, kk.owns h'.row (fun b hb e => hne (by simp [Value.ownBlock] at hb; rw [hb, e])), hp, hnb, hml, by omega, fun k hk => ?_, hne⟩
    · rw [World.cell?_setCell_other _ _ _ _ (by simp)]; show (w1.setCell ⟨P, o + 1, none⟩ _).cell? _ = _; rw [World.cell?_setCell_other _ _ _ _ (by simp)]; exact d0
    · rw [World.cell?_setCell_other _ _ _ _ (by simp)]; show (w1.setCell ⟨P, o + 1, none⟩ _).cell? _ = _; exact World.cell?_setCell_same _ _ _ d1
    · rw [World.cell?_setCell_same _ _ _ (e2 _), hqle]
    · rw [World.frozen?_setCell]; show (w1.setCell ⟨P, o + 1, none⟩ _).frozen? _ = _; rw [World.frozen?_setCell]; exact h'.fz j
    · rw [HM.out, mod_next first k n]
      have := h'.at' (k + 1) (by simp; omega)
      simpa using this
  have hCh : Ch (fun b => b = P) w ((w1.setCell ⟨P, o + 1, none⟩ (.int .i64 (m : Int))).drew.setCell ⟨P, o + 2, none⟩ (.int .i64 (ql : Int))) := (((Ch.ofBelow (S := fun b => b = P) hb1).set ⟨P, o + 1, none⟩ _ rfl).drew).set ⟨P, o + 2, none⟩ _ rfl
  have wq : IntKind.i64.wrap ((ql : Int) + 1 - 1) = (ql : Int) := by rw [i64_small _ (by omega) (by omega)]; omega
  have wq2 : (ql : Int) + 1 - 1 = (ql : Int) := by omega
  have hoth : ∀ j, j ≠ o + 1 → j ≠ o + 2 → ((w1.setCell ⟨P, o + 1, none⟩ (.int .i64 (m : Int))).drew.setCell ⟨P, o + 2, none⟩ (.int .i64 (ql : Int))).cell? ⟨P, j, none⟩ = w.cell? ⟨P, j, none⟩ := fun j h1 h2 => by
    rw [World.cell?_setCell_other _ _ _ _ (by simp only [ne_eq, Addr.mk.injEq, true_and, and_true]; exact fun e => h2 e.symm)]
    show (w1.setCell ⟨P, o + 1, none⟩ _).cell? _ = _
    rw [World.cell?_setCell_other _ _ _ _ (by simp only [ne_eq, Addr.mk.injEq, true_and, and_true]; exact fun e => h1 e.symm)]
    exact hb1.cell (p := ⟨P, j, none⟩) (World.block_lt_of_cell? w ⟨P, o, none⟩ h.c0)
  have HF : Hid _ := hfin
  have HC : Hid _ := hCh
  have HO : Hid _ := hoth
  clear hfin hCh hoth hqle h' h HA
  go_wp2
  try go_region
  go_wp2
  go_ret
  exact ⟨rfl, HF.out, HC.out, HO.out⟩
set_option maxHeartbeats 800000 in
theorem join_line (w : World) (P o g n : Nat) (x : Nat) (q : List Nat) (first : Nat) (S : List Nat) (h : LineAt w P o g n q first S) (hq : q.length < n) :
    Calls Try.prog 32 #[.pointer (some ⟨P, o, none⟩), .int .i64 x] w fun e w' => e = .returned (.tuple #[]) ∧ (∃ S', LineAt w' P o g n (q ++ [x]) first S') ∧ Ch (fun b => b = P ∨ b = g) w w' ∧ ∀ j, j ≠ o + 1 → j ≠ o + 2 → w'.cell? ⟨P, j, none⟩ = w.cell? ⟨P, j, none⟩ := by
  have hp := h.pos
  have hnb := h.nb
  have hfl := h.fl
  have hSl := h.Slen
  obtain ⟨m, hm⟩ : ∃ m, m = (first + q.length) % n := ⟨_, rfl⟩
  have hml : m < n := by rw [hm]; exact Nat.mod_lt _ hp
  obtain ⟨ql, hqle⟩ : ∃ ql, ql = q.length := ⟨_, rfl⟩
  have hmI : ((first : Int) + (ql : Int)) % (n : Int) = (m : Int) := by rw [hm, hqle]; simp
  have hmT : Int.tmod ((first : Int) + (ql : Int)) (n : Int) = (m : Int) := by rw [Int.tmod_eq_emod_of_nonneg (by omega)]; exact hmI
  have w1' : IntKind.i64.wrap ((first : Int) + (ql : Int)) = (first : Int) + (ql : Int) := i64_small _ (by omega) (by omega)
  have n0 : ((n : Int) == 0) = false := beq_eq_false_iff_ne.2 (by omega)
  have m0 : (0 : Int) ≤ (m : Int) := by omega
  have m1 : (m : Int) < (n : Int) := by omega
  have m2 : ((m : Int)).toNat = m := by omega
  have hne := h.ne
  have d0 := h.c0
  have d1 := h.c1
  have d2 := h.c2
  rw [← hqle] at d2
  obtain ⟨hst, hgr⟩ := h.row.stored m (.int .i64 (x : Int))
  have hcm : ∃ z, w.cell? ⟨g, m, none⟩ = some z := by
    have := h.row.cellAt m (by omega)
    rw [List.getElem?_eq_getElem (by rw [nV_len]; omega)] at this
    exact ⟨_, this⟩
  obtain ⟨z, hz⟩ := hcm
  have hzd : w.drew.cell? ⟨g, m, none⟩ = some z := hz
  have hfg : w.drew.frozen? ⟨g, m, none⟩ = false := h.row.frozenAt m
  obtain ⟨W, hW⟩ : ∃ W, W = (w.setCell ⟨g, m, none⟩ (.int .i64 (x : Int))).drew := ⟨_, rfl⟩
  have k0 : Ch (fun b => b = g) w W := by rw [hW]; exact ((Ch.refl (fun b => b = g) w).set ⟨g, m, none⟩ _ rfl).drew
  have e0 := k0.cell d0 (fun e => hne e.symm)
  have e1 := k0.cell d1 (fun e => hne e.symm)
  have e2 := k0.cell d2 (fun e => hne e.symm)
  have f2 : W.frozen? ⟨P, o + 2, none⟩ = false := by rw [hW]; show (w.setCell ⟨g, m, none⟩ _).frozen? _ = _; rw [World.frozen?_setCell]; exact h.fz _
  have hrowW : W.ownsRow 0 3 1 (.slice (some ⟨g, 0, none⟩) n n) n (nV (S.set m x)) := by
    rw [hW]
    have e : nV (S.set m x) = (nV S).set m (.int .i64 (x : Int)) := by simp [nV, List.map_set]
    rw [e]
    exact hst
  have hfin : LineAt (W.setCell ⟨P, o + 2, none⟩ (.int .i64 ((ql : Int) + 1))) P o g n (q ++ [x]) first (S.set m x) := by
    have kk : Ch (fun b => b = P) W (W.setCell ⟨P, o + 2, none⟩ (.int .i64 ((ql : Int) + 1))) := (Ch.refl _ W).set _ _ rfl
    refine ⟨?_, ?_, ?_, fun j => ?_, kk.owns hrowW (fun b hb e => hne (by simp [Value.ownBlock] at hb; rw [hb, e])), hp, hnb, hfl, by simp; omega, fun k hk => ?_, hne⟩
    · rw [World.cell?_setCell_other _ _ _ _ (by simp)]; exact e0
    · rw [World.cell?_setCell_other _ _ _ _ (by simp)]; exact e1
    · rw [World.cell?_setCell_same _ _ _ e2, hqle]; simp
    · rw [World.frozen?_setCell, hW]; show (w.setCell ⟨g, m, none⟩ _).frozen? _ = _; rw [World.frozen?_setCell]; exact h.fz j
    · simp only [List.length_append, List.length_cons, List.length_nil] at hk
      by_cases hkq : k < q.length
      · rw [List.getElem?_set_ne (by rw [hm]; exact (mod_ne first k q.length n hfl hkq hq).symm), List.getElem_append_left hkq]
        exact h.at' k hkq
      · have hke : k = q.length := by omega
        subst hke
        rw [← hm, List.getElem?_set_self (by omega)]
        simp
  have hCh : Ch (fun b => b = P ∨ b = g) w (W.setCell ⟨P, o + 2, none⟩ (.int .i64 ((ql : Int) + 1))) := (k0.mono (fun _ _ e => .inr e)).set _ _ (.inl rfl)
  have wq : IntKind.i64.wrap ((ql : Int) + 1) = (ql : Int) + 1 := i64_small _ (by omega) (by omega)
  have hoth : ∀ j, j ≠ o + 1 → j ≠ o + 2 → (W.setCell ⟨P, o + 2, none⟩ (.int .i64 ((ql : Int) + 1))).cell? ⟨P, j, none⟩ = w.cell? ⟨P, j, none⟩ := fun j _ h2 => by
    rw [World.cell?_setCell_other _ _ _ _ (by simp only [ne_eq, Addr.mk.injEq, true_and, and_true]; exact fun e => h2 e.symm)]
    exact World.cell?_of_block (k0.block P (World.block_lt_of_cell? w ⟨P, o, none⟩ d0) (fun e => hne e.symm))
  have HF : Hid _ := hfin
  have HC : Hid _ := hCh
  have HO : Hid _ := hoth
  have HW : Hid ((w.setCell ⟨g, m, none⟩ (.int .i64 (x : Int))).drew = W) := hW.symm
  clear hfin hCh hoth hqle h hW hrowW hst hgr hm hz k0 hSl
  go_enter Try.func32, Try.ntmps32
  go_wp2
  try go_region
  rw [HW.out]
  go_wp2
  go_end0
  exact ⟨rfl, ⟨_, HF.out⟩, HC.out, HO.out⟩
end Go.Proofs.Ytaicmpkgcppplaa
