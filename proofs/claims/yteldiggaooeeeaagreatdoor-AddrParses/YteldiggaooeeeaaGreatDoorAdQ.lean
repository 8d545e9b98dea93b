/-
  Layer 4: texts in numbers: bytes, digits, numbers, groups (what is read of weirref4's texts without its functions).
-/
import Derived.Test.YteldiggaooeeeaaGreatDoorAdP
import Derived.Deep.CutBlock
import Derived.Deep.DeepCutAuto
namespace Go.Proofs.YteldiggaooeeeaaGreatDoor
open Go.RowKit Go.Maps

/-- a text's byte -/
def sB (s : ByteArray) (i : Nat) : Nat := (s.data.toList.getD i 0).toNat
theorem sB_lt (s : ByteArray) (i : Nat) : sB s i < 256 := UInt8.toNat_lt _
theorem sB_get (s : ByteArray) (i : Nat) (h : i < s.size) : sB s i = (s[i]'h).toNat := by
  unfold sB
  congr 1
  have h2 : i < s.data.size := h
  rw [List.getD_eq_getElem?_getD, Array.getElem?_toList, Array.getElem?_eq_getElem h2]
  rfl
theorem wpList_sB {ops : Array Oper} {rest : List Oper} {o : Oper} {a : Act} {w : World} {Q : Exit → Act → World → Prop} (x y : Operand) (ho : o.op = .index 9 x y) (s : ByteArray) (p : Nat) (z : Int) (hx : a.eval x = .string s) (hy : a.eval y = .int .i64 z) (hz : z = (p : Int)) (hp : p < s.size) (hw : Region.wanted o (yielded ops a.tmps) = true)
    (h : wpList Tryz.prog ops Q rest (a.put o.dst (.int .u8 (sB s p : Nat))) w) : wpList Tryz.prog ops Q (o :: rest) a w := by
  refine wpList_step fun K hK => ?_
  rw [if_pos hw]
  have hrun : (execOp a.eval o).run Tryz.prog w = .ok (.value (.int .u8 (sB s p : Nat))) w := by
    obtain ⟨dst, op, type, pos, after, guard⟩ := o
    simp only at ho
    subst ho
    simp only [execOp, Sem.run_bind, hx, hy, hz]
    rw [run_index_string w 9 s .i64 (p : Int) Tryz.underlying9, dif_pos (by omega)]
    simp only [Result.andThen_ok, Int.toNat_natCast, sB_get s p hp]
    rfl
  unfold Oper.wp
  rw [hrun]
  exact hK _ _ h
def dgB (c : Nat) : Bool := decide (48 ≤ c) && decide (c ≤ 57)
/-- a hexadecimal digit's worth -/
def wth (c : Nat) : Int := if dgB c then (c : Int) - 48 else if decide (97 ≤ c) && decide (c ≤ 102) then (c : Int) - 97 + 10 else if decide (65 ≤ c) && decide (c ≤ 70) then (c : Int) - 65 + 10 else -1
theorem u8_s (a : Int) (h1 : 0 ≤ a) (h2 : a < 256) : IntKind.u8.wrap a = a := by
  have : IntKind.u8.wrap a = a % 256 := rfl
  rw [this]; omega
/-- the error of a text that does not go on at p, its place -/
def hrE (s : ByteArray) (p : Nat) : Nat × Nat := if s.size ≤ p then (42, s.size) else (41, p)
def hsB (s : ByteArray) (c : Nat) : Bool := (List.range s.size).any fun i => sB s i == c
theorem hsB_true {s : ByteArray} {c k : Nat} (h : k < s.size) (e : sB s k = c) : hsB s c = true := by
  unfold hsB
  rw [List.any_eq_true]
  exact ⟨k, List.mem_range.2 h, by simp [e]⟩
theorem hsB_false {s : ByteArray} {c : Nat} (h : ∀ i, i < s.size → sB s i ≠ c) : hsB s c = false := by
  unfold hsB
  rw [List.any_eq_false]
  intro i hi
  simp [h i (List.mem_range.1 hi)]
theorem beq58 (a : Nat) : (((a : Int)) == 58) = (a == 58) := by rw [Bool.eq_iff_iff]; simp; omega
def twB (s : ByteArray) (p : Nat) : Bool := decide (p + 1 < s.size) && sB s p == 58 && sB s (p + 1) == 58
/-- the number of k digits from p on -/
def dcN (s : ByteArray) (p : Nat) : Nat → Nat
  | 0 => 0
  | k + 1 => 10 * dcN s p k + (sB s (p + k) - 48)
def dcm (s : ByteArray) (p q most : Nat) : Int := if decide (3 < q - p) || (decide (1 < q - p) && sB s p == 48) then -1 else if most < dcN s p (q - p) then -1 else (dcN s p (q - p) : Nat)
theorem dcN_lt {s : ByteArray} {p : Nat} : ∀ k, (∀ i, i < k → dgB (sB s (p + i)) = true) → dcN s p k < 10 ^ k
  | 0, _ => by simp [dcN]
  | k + 1, h => by
    have h1 := dcN_lt k (fun i hi => h i (by omega))
    have h2 := h k (by omega)
    simp [dgB] at h2
    unfold dcN
    rw [Nat.pow_succ]
    omega
theorem dcN_small {s : ByteArray} {p k : Nat} (hk : k ≤ 3) (h : ∀ i, i < k → dgB (sB s (p + i)) = true) : dcN s p k < 1000 := by
  have h1 := dcN_lt k h
  have h2 : 10 ^ k ≤ 10 ^ 3 := Nat.pow_le_pow_right (by omega) hk
  omega
/-- the first place from p on at which no such byte stands -/
def scn (s : ByteArray) (f : Nat → Bool) : Nat → Nat → Nat
  | 0, p => p
  | n + 1, p => if decide (p < s.size) && f (sB s p) then scn s f n (p + 1) else p
def scP (s : ByteArray) (f : Nat → Bool) (p : Nat) : Nat := scn s f (s.size - p) p
theorem scP_step {s : ByteArray} {f : Nat → Bool} {p : Nat} (h1 : p < s.size) (h2 : f (sB s p) = true) : scP s f p = scP s f (p + 1) := by
  unfold scP
  rw [show s.size - p = (s.size - (p + 1)) + 1 by omega]
  conv => lhs; unfold scn
  rw [decide_eq_true h1, h2]
  rfl
theorem scP_stop {s : ByteArray} {f : Nat → Bool} {p : Nat} (h : (decide (p < s.size) && f (sB s p)) = false) : scP s f p = p := by
  unfold scP
  cases hn : s.size - p with
  | zero => rfl
  | succ n => unfold scn; rw [h]; rfl
/-- four numbers from p up to the text's end: m of them still to come -/
def dtd (s : ByteArray) : Nat → Nat → List Nat → Sum (List Nat) (Nat × Nat)
  | 0, p, l => if decide (p < s.size) then .inr (41, p) else .inl l
  | m + 1, p, l =>
    if scP s dgB p == p then .inr (hrE s p) else
    if decide (dcm s p (scP s dgB p) 255 < 0) then .inr (43, p) else
    if m == 0 then dtd s 0 (scP s dgB p) (l ++ [(dcm s p (scP s dgB p) 255).toNat]) else
    if decide (s.size ≤ scP s dgB p) || sB s (scP s dgB p) != 46 then .inr (hrE s (scP s dgB p)) else
    dtd s m (scP s dgB p + 1) (l ++ [(dcm s p (scP s dgB p) 255).toNat])
theorem dcm_le {s : ByteArray} {p q most : Nat} : dcm s p q most ≤ most := by
  unfold dcm
  split
  · omega
  · split <;> omega
theorem cellsOne (w : World) (v : Value) (T : TypeId) : ∀ j u, [v][j]? = some u → (w.alloc (.cells #[v] T)).cell? ((⟨w.heap.size, 0, none⟩ : Addr).add j) = some u := by
  intro j u h
  cases j with
  | zero =>
    simp at h
    subst h
    exact World.cell?_alloc_at _ _ _ _ rfl
  | succ j => simp at h
def slN : Value → Nat
  | .slice _ n _ => n
  | _ => 0
/-- groups, ahead of which the :: stands, the place, an error and its place -/
structure SX where
  g : List Nat
  gap : Int
  p : Nat
  er : Nat
  pl : Nat
def SX.fail (X : SX) (e a : Nat) : SX := if X.er == 0 then { X with er := e, pl := a } else X
def sxC (s : ByteArray) (lv : Value) (X : SX) : Array Value := #[.string s, lv, .int .i64 X.gap, .int .i64 (X.p : Nat), .int .i64 (X.er : Nat), .int .i64 (X.pl : Nat)]
def rmN (X : SX) : Nat := if decide (0 ≤ X.gap) then 7 else 8
theorem yields_str {ops : Array Oper} {o : Oper} {a : Act} {S : World → Prop} (x : Operand) (ho : o.op = .load 9 x) (p : Addr) (u : Value) (hx : a.eval x = .pointer (some p)) (hw : Region.wanted o (yielded ops a.tmps) = true) (hS : ∀ w, S w → w.cell? p = some u) : YieldsIf Tryz.prog ops S o u a := by
  refine .inl ⟨hw, fun w hb => ?_⟩
  have hc := hS w hb
  have hu := Tryz.underlying9
  obtain ⟨dst, op, type, pos, after, guard⟩ := o
  simp only at ho
  subst ho
  simp only [execOp, Sem.run_bind, Sem.run_pure]
  rw [hx]
  simp [Instr.loadAt, go_sem, hc]
theorem yields_lst {ops : Array Oper} {o : Oper} {a : Act} {S : World → Prop} (x : Operand) (ho : o.op = .load 145 x) (p : Addr) (u : Value) (hx : a.eval x = .pointer (some p)) (hw : Region.wanted o (yielded ops a.tmps) = true) (hS : ∀ w, S w → w.cell? p = some u) : YieldsIf Tryz.prog ops S o u a := by
  refine .inl ⟨hw, fun w hb => ?_⟩
  have hc := hS w hb
  have hu := Tryz.underlying145
  obtain ⟨dst, op, type, pos, after, guard⟩ := o
  simp only at ho
  subst ho
  simp only [execOp, Sem.run_bind, Sem.run_pure]
  rw [hx]
  simp [Instr.loadAt, go_sem, hc]
/-- what stands behind a group -/
def btw (s : ByteArray) (X : SX) : SX × Bool :=
  if twB s X.p then (if decide (0 ≤ X.gap) || X.g.length == 8 then (X.fail 44 X.p, false) else ({ X with gap := (X.g.length : Nat), p := X.p + 2 }, X.p + 2 == s.size))
  else if sB s X.p == 58 then ({ X with p := X.p + 1 }, false) else (X.fail 41 X.p, false)
def hxB (c : Nat) : Bool := decide (0 ≤ wth c)
/-- the number of k hexadecimal digits from p on -/
def hxN (s : ByteArray) (p : Nat) : Nat → Nat
  | 0 => 0
  | k + 1 => 16 * hxN s p k + (wth (sB s (p + k))).toNat
theorem wth_le (c : Nat) : wth c ≤ 15 := by
  unfold wth dgB
  split
  · rename_i h; simp at h; omega
  · split
    · rename_i h; simp at h; omega
    · split
      · rename_i h; simp at h; omega
      · omega
theorem hxN_lt (s : ByteArray) (p : Nat) : ∀ k, hxN s p k < 16 ^ k
  | 0 => by simp [hxN]
  | k + 1 => by
    have h1 := hxN_lt s p k
    have h2 := wth_le (sB s (p + k))
    unfold hxN
    rw [Nat.pow_succ]
    omega
theorem hxN_small {s : ByteArray} {p k : Nat} (hk : k ≤ 4) : hxN s p k < 65536 := by
  have h1 := hxN_lt s p k
  have h2 : 16 ^ k ≤ 16 ^ 4 := Nat.pow_le_pow_right (by omega) hk
  omega
def tlB (s : ByteArray) (X : SX) (q : Nat) : Bool := decide (q < s.size) && sB s q == 46 && decide (0 < X.p)
def grpq (s : ByteArray) (X : SX) (q : Nat) : SX × Bool :=
  if q == X.p then (X.fail (hrE s X.p).1 (hrE s X.p).2, true) else
  if decide (rmN X < X.g.length + (if tlB s X q then 2 else 1)) then (X.fail 44 X.p, true) else
  if tlB s X q then (match dtd s 4 X.p [] with
    | .inr e => (X.fail e.1 e.2, true)
    | .inl l => ({ X with g := X.g ++ [256 * l.getD 0 0 + l.getD 1 0, 256 * l.getD 2 0 + l.getD 3 0], p := s.size }, true)) else
  if decide (4 < q - X.p) then (X.fail 43 X.p, true) else
  ({ X with g := X.g ++ [hxN s X.p (q - X.p)], p := q }, q == s.size)
/-- one group -/
def grp (s : ByteArray) (X : SX) : SX × Bool := grpq s X (scP s hxB X.p)
theorem rmN_le (X : SX) : rmN X ≤ 8 := by unfold rmN; split <;> omega
structure SxOk (s : ByteArray) (X : SX) : Prop where
  p : X.p ≤ s.size
  l : X.g.length ≤ 8
  b : ∀ n ∈ X.g, n < 65536
theorem scn_ge (s : ByteArray) (f : Nat → Bool) : ∀ n p, p ≤ scn s f n p
  | 0, p => Nat.le_refl _
  | n + 1, p => by
    unfold scn
    split
    · exact Nat.le_trans (Nat.le_succ p) (scn_ge s f n (p + 1))
    · exact Nat.le_refl _
theorem scn_le (s : ByteArray) (f : Nat → Bool) : ∀ n p, p ≤ s.size → scn s f n p ≤ s.size
  | 0, p, h => h
  | n + 1, p, h => by
    unfold scn
    split
    · rename_i h2
      simp at h2
      exact scn_le s f n (p + 1) h2.1
    · exact h
theorem SX.fail_er {X : SX} {e a : Nat} (h : X.er = 0) : (X.fail e a).er = e := by unfold SX.fail; rw [h]; rfl
theorem SxOk.fail {s : ByteArray} {X : SX} (h : SxOk s X) (e a : Nat) : SxOk s (X.fail e a) := by
  unfold SX.fail
  split
  · exact ⟨h.p, h.l, h.b⟩
  · exact h
theorem tlB_no {s : ByteArray} (hnd : ∀ i, sB s i ≠ 46) (X : SX) (q : Nat) : tlB s X q = false := by unfold tlB; simp [hnd q]
theorem grp_eq {s : ByteArray} (hnd : ∀ i, sB s i ≠ 46) (X : SX) : grp s X = if scP s hxB X.p == X.p then (X.fail (hrE s X.p).1 (hrE s X.p).2, true) else if decide (rmN X < X.g.length + 1) then (X.fail 44 X.p, true) else if decide (4 < scP s hxB X.p - X.p) then (X.fail 43 X.p, true) else ({ X with g := X.g ++ [hxN s X.p (scP s hxB X.p - X.p)], p := scP s hxB X.p }, scP s hxB X.p == s.size) := by
  unfold grp grpq
  rw [tlB_no hnd]
  rfl
theorem grp_ok {s : ByteArray} (hnd : ∀ i, sB s i ≠ 46) {X : SX} (h : SxOk s X) : SxOk s (grp s X).1 := by
  rw [grp_eq hnd]
  split
  · exact h.fail _ _
  · split
    · exact h.fail _ _
    · rename_i h2
      simp at h2
      have := rmN_le X
      split
      · exact h.fail _ _
      · rename_i h3
        simp at h3
        refine ⟨scn_le s hxB _ _ h.p, by simp; omega, fun n hn => ?_⟩
        simp at hn
        rcases hn with hn | rfl
        · exact h.b n hn
        · exact hxN_small (by omega)
theorem grp_go {s : ByteArray} (hnd : ∀ i, sB s i ≠ 46) {X : SX} (h : SxOk s X) (hg : (grp s X).2 = false) : X.p < (grp s X).1.p ∧ (grp s X).1.p < s.size := by
  have k1 := scn_ge s hxB (s.size - X.p) X.p
  have k2 := scn_le s hxB (s.size - X.p) X.p h.p
  rw [grp_eq hnd] at hg ⊢
  obtain ⟨q, hq⟩ : ∃ q, q = scP s hxB X.p := ⟨_, rfl⟩
  rw [← hq] at hg ⊢
  have k3 : X.p ≤ q := by rw [hq]; exact k1
  have k4 : q ≤ s.size := by rw [hq]; exact k2
  by_cases h1 : q = X.p
  · rw [if_pos (by simp [h1])] at hg; cases hg
  · rw [if_neg (by simp [h1])] at hg ⊢
    split at hg
    · cases hg
    · rename_i h2
      rw [if_neg h2]
      split at hg
      · cases hg
      · rename_i h3
        rw [if_neg h3]
        simp at hg
        refine ⟨?_, ?_⟩
        · show X.p < q; omega
        · show q < s.size; omega
theorem btw_ok {s : ByteArray} {X : SX} (h : SxOk s X) (hp : X.p < s.size) : SxOk s (btw s X).1 := by
  unfold btw
  split
  · rename_i h1
    split
    · exact h.fail _ _
    · unfold twB at h1
      simp at h1
      exact ⟨by show X.p + 2 ≤ s.size; omega, h.l, h.b⟩
  · split
    · exact ⟨hp, h.l, h.b⟩
    · exact h.fail _ _
theorem btw_go {s : ByteArray} {X : SX} (he : X.er = 0) : (btw s X).1.er ≠ 0 ∨ X.p < (btw s X).1.p := by
  unfold btw
  split
  · split
    · exact .inl (by rw [SX.fail_er he]; decide)
    · exact .inr (by show X.p < X.p + 2; omega)
  · split
    · exact .inr (Nat.lt_succ_self _)
    · exact .inl (by rw [SX.fail_er he]; decide)
def rnd (s : ByteArray) (X : SX) : SX × Bool := if !(grp s X).2 && (grp s X).1.er == 0 then btw s (grp s X).1 else grp s X
def slp (s : ByteArray) : Nat → SX × Bool → SX
  | 0, Z => Z.1
  | f + 1, Z => if !Z.2 && Z.1.er == 0 then slp s f (rnd s Z.1) else Z.1
def mZ (s : ByteArray) (Z : SX × Bool) : Nat := if !Z.2 && Z.1.er == 0 then s.size + 1 - Z.1.p else 0
theorem slp_end {s : ByteArray} {Z : SX × Bool} (h : (!Z.2 && Z.1.er == 0) = false) : ∀ f, slp s f Z = Z.1
  | 0 => rfl
  | f + 1 => by unfold slp; rw [h]; rfl
theorem rnd_ok {s : ByteArray} (hnd : ∀ i, sB s i ≠ 46) {X : SX} (h : SxOk s X) : SxOk s (rnd s X).1 := by
  unfold rnd
  split
  · rename_i h1
    simp at h1
    exact btw_ok (grp_ok hnd h) (grp_go hnd h h1.1).2
  · exact grp_ok hnd h
theorem rnd_less {s : ByteArray} (hnd : ∀ i, sB s i ≠ 46) {X : SX} (h : SxOk s X) : mZ s (rnd s X) < s.size + 1 - X.p := by
  have hp := h.p
  unfold rnd
  split
  · rename_i h1
    simp at h1
    obtain ⟨k1, k2⟩ := grp_go hnd h h1.1
    unfold mZ
    split
    · rename_i h2
      simp at h2
      rcases btw_go (s := s) h1.2 with k3 | k3
      · exact absurd h2.2 k3
      · omega
    · omega
  · rename_i h1
    unfold mZ
    rw [if_neg h1]
    omega
def sx0 (s : ByteArray) : SX × Bool := if twB s 0 then (⟨[], 0, 2, 0, 0⟩, s.size == 2) else (⟨[], -1, 0, 0, 0⟩, false)
theorem sx0_ok (s : ByteArray) : SxOk s (sx0 s).1 := by
  unfold sx0
  split
  · rename_i h
    unfold twB at h
    simp at h
    exact ⟨by show 2 ≤ s.size; omega, by simp, by simp⟩
  · exact ⟨Nat.zero_le _, by simp, by simp⟩
/-- what the loop leaves -/
def sxL (s : ByteArray) : SX := slp s (s.size + 1) (sx0 s)
theorem sx0_m (s : ByteArray) : mZ s (sx0 s) ≤ s.size + 1 := by unfold mZ; split <;> omega
def kI (X : SX) (i : Nat) : Nat := if decide (0 ≤ X.gap) && decide (X.gap ≤ (i : Int)) then 8 - X.g.length + i else i
def up1 (x : Nat → Nat) (k v : Nat) : Nat → Nat := fun i => if i = k then v else x i
/-- the bytes behind i groups -/
def fil (X : SX) : Nat → (Nat → Nat)
  | 0 => fun _ => 0
  | i + 1 => up1 (up1 (fil X i) (2 * kI X i) (X.g.getD i 0 / 256)) (2 * kI X i + 1) (X.g.getD i 0 % 256)
def sxM (s : ByteArray) (R : Nat) (d : Value) (w : World) : Nat := match d, w.cell? ⟨R, 4, none⟩, w.cell? ⟨R, 3, none⟩ with
  | .bool false, some (.int _ 0), some (.int _ p) => s.size + 1 - p.toNat
  | _, _, _ => 0
end Go.Proofs.YteldiggaooeeeaaGreatDoor
