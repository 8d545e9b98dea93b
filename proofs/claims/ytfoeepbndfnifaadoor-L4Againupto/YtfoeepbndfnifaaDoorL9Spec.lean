/-
  Datagrams of UDP and segments of TCP as values: whether they may be, what is written, what is read: in numbers. No program here.
-/
import Derived.Test.YtfoeepbndfnifaaDoorI4Spec
namespace Go.Proofs.YtfoeepbndfnifaaDoor.L4
open I4 (flatI putOk putO okO natO intO scan ov getD_app1 getD_app2 getD_lt Op4 OV)

def inB (x m : Int) : Bool := decide (0 ≤ x ∧ x ≤ m)
theorem inB_iff (x m : Int) : inB x m = true ↔ 0 ≤ x ∧ x ≤ m := by simp [inB]
structure U9 where
  sp : Int
  dp : Int
  ns : Bool
  d : List Nat
def uOkF (v : Int) (u : U9) : Bool := inB u.sp 65535 && inB u.dp 65535 && !(u.ns && decide (v = 6))
def uChk (v : Int) (u : U9) : Nat := if v = 4 ∨ v = 6 then (if uOkF v u then (if 65535 < 8 + u.d.length then 2 else 0) else 98) else 20
def nz (n : Nat) : Nat := if n = 0 then 65535 else n
def uHd (u : U9) (s : Nat) : List Nat := [u.sp.toNat / 256, u.sp.toNat % 256, u.dp.toNat / 256, u.dp.toNat % 256, (8 + u.d.length) / 256, (8 + u.d.length) % 256, s / 256, s % 256]
def uRaw (u : U9) (p : List Nat) : Nat := 65535 - S.fold (S.wv false (p ++ (uHd u 0 ++ u.d)))
def uSum (u : U9) (p : List Nat) : Nat := if u.ns then 0 else nz (uRaw u p)
def uSer (u : U9) (p : List Nat) : List Nat := uHd u (uSum u p) ++ u.d
def uPutE (ok : Bool) (v : Int) (u : U9) : Nat := if ok then uChk v u else 20
def uN (b : List Nat) : Nat := b.getD 4 0 * 256 + b.getD 5 0
def uS (b : List Nat) : Nat := b.getD 6 0 * 256 + b.getD 7 0
/-- p: the pseudo-header of as many bytes as the datagram says -/
def uPE (v : Int) (ok : Bool) (p b : List Nat) : Nat :=
  if 65535 < b.length then 2 else if ok then (if b.length < 8 then 91 else if uN b < 8 ∨ b.length < uN b then 92 else if (uS b = 0 ∧ v = 6) ∨ (uS b ≠ 0 ∧ S.fold (S.wv false (p ++ b.take (uN b))) ≠ 65535) then 93 else 0) else 20
def uP (b : List Nat) : U9 := ⟨(b.getD 0 0 * 256 + b.getD 1 0 : Nat), (b.getD 2 0 * 256 + b.getD 3 0 : Nat), decide (uS b = 0), (b.drop 8).take (uN b - 8)⟩

theorem uHd_len (u : U9) (s : Nat) : (uHd u s).length = 8 := rfl
theorem uSer_len (u : U9) (p : List Nat) : (uSer u p).length = 8 + u.d.length := by simp [uSer, uHd_len]
theorem uChk_zero {v : Int} {u : U9} (h : uChk v u = 0) : (v = 4 ∨ v = 6) ∧ (0 ≤ u.sp ∧ u.sp ≤ 65535) ∧ (0 ≤ u.dp ∧ u.dp ≤ 65535) ∧ (u.ns = true → v ≠ 6) ∧ 8 + u.d.length ≤ 65535 := by
  unfold uChk at h
  split at h
  · rename_i h1
    split at h
    · rename_i h2
      split at h
      · omega
      · rename_i h3
        simp only [uOkF, Bool.and_eq_true, inB_iff, Bool.not_eq_true', Bool.and_eq_false_iff, decide_eq_false_iff_not] at h2
        refine ⟨h1, h2.1.1, h2.1.2, fun hn => ?_, by omega⟩
        rcases h2.2 with e | e
        · rw [hn] at e; cases e
        · exact e
    · omega
  · omega
theorem uChk_of {v : Int} {u : U9} (h1 : v = 4 ∨ v = 6) (h2 : 0 ≤ u.sp ∧ u.sp ≤ 65535) (h3 : 0 ≤ u.dp ∧ u.dp ≤ 65535) (h4 : u.ns = true → v ≠ 6) (h5 : 8 + u.d.length ≤ 65535) : uChk v u = 0 := by
  have e : uOkF v u = true := by
    simp only [uOkF, Bool.and_eq_true, inB_iff, Bool.not_eq_true', Bool.and_eq_false_iff, decide_eq_false_iff_not]
    refine ⟨⟨h2, h3⟩, ?_⟩
    cases hn : u.ns
    · exact .inl rfl
    · exact .inr (h4 hn)
  unfold uChk
  rw [if_pos h1, if_pos e, if_neg (by omega)]
theorem uHd_256 (u : U9) (s : Nat) (h1 : u.sp ≤ 65535) (h2 : u.dp ≤ 65535) (h3 : 8 + u.d.length ≤ 65535) (hs : s ≤ 65535) : ∀ x ∈ uHd u s, x < 256 := by
  intro x hx
  simp only [uHd, List.mem_cons, List.not_mem_nil, or_false] at hx
  omega
theorem uRaw_le (u : U9) (p : List Nat) : uRaw u p ≤ 65535 := Nat.sub_le _ _
theorem nz_le (n : Nat) (h : n ≤ 65535) : nz n ≤ 65535 ∧ 0 < nz n := by unfold nz; split <;> omega
theorem uSum_le (u : U9) (p : List Nat) : uSum u p ≤ 65535 := by
  unfold uSum
  split
  · omega
  · exact (nz_le _ (uRaw_le u p)).1
theorem uSum_zero (u : U9) (p : List Nat) : uSum u p = 0 ↔ u.ns = true := by
  unfold uSum
  split
  · rename_i h; simp [h]
  · rename_i h
    have := (nz_le _ (uRaw_le u p)).2
    simp only [h]
    constructor
    · intro e; omega
    · intro e; cases e
theorem uSer_256 (u : U9) (p : List Nat) {v : Int} (h : uChk v u = 0) (hd : ∀ x ∈ u.d, x < 256) : ∀ x ∈ uSer u p, x < 256 := by
  obtain ⟨_, h2, h3, _, h5⟩ := uChk_zero h
  intro x hx
  rcases List.mem_append.1 hx with e | e
  · exact uHd_256 u _ h2.2 h3.2 h5 (uSum_le u p) x e
  · exact hd x e
theorem par_even (n : Nat) (h : n % 2 = 0) : S.par false n = false := by simp [S.par, h]
theorem wv_pre (p m : List Nat) (hp : p.length % 2 = 0) : S.wv false (p ++ m) = S.wv false p + S.wv false m := by rw [S.wv_append, par_even _ hp]
theorem wv_uHd (u : U9) (s : Nat) : S.wv false (uHd u s) = S.wv false (uHd u 0) + s := by
  simp only [uHd, S.wv]
  omega
theorem uMid (u : U9) (p : List Nat) (s : Nat) (hp : p.length % 2 = 0) : S.wv false (p ++ (uHd u s ++ u.d)) = S.wv false (p ++ (uHd u 0 ++ u.d)) + s := by
  rw [wv_pre _ _ hp, wv_pre _ _ hp, wv_pre _ _ (by rw [uHd_len]), wv_pre _ _ (by rw [uHd_len]), wv_uHd u s]
  omega
theorem fold_nz (V : Nat) : S.fold (V + nz (65535 - S.fold V)) = 65535 := by
  unfold nz
  split
  · rename_i h
    have h2 := S.fold_le V
    have h1 : S.fold V = 65535 := by omega
    rw [S.fold_full] at h1 ⊢
    omega
  · exact S.own_good V
theorem uSer_good (u : U9) (p : List Nat) (hp : p.length % 2 = 0) (hn : u.ns = false) : S.fold (S.wv false (p ++ uSer u p)) = 65535 := by
  unfold uSer
  rw [uMid u p _ hp]
  unfold uSum
  rw [hn]
  exact fold_nz _
theorem getD8 (a b c d e f g h : Nat) (r : List Nat) (i : Nat) (x : Nat) (hx : [a, b, c, d, e, f, g, h][i]? = some x) : ([a, b, c, d, e, f, g, h] ++ r).getD i 0 = x := by
  have hi : i < [a, b, c, d, e, f, g, h].length := by
    rcases Nat.lt_or_ge i [a, b, c, d, e, f, g, h].length with q | q
    · exact q
    · rw [List.getElem?_eq_none q] at hx; cases hx
  rw [getD_app1 _ _ _ hi, List.getD_eq_getElem?_getD, hx]
  rfl
theorem uSer_at (u : U9) (p : List Nat) (i x : Nat) (hx : (uHd u (uSum u p))[i]? = some x) : (uSer u p).getD i 0 = x := getD8 _ _ _ _ _ _ _ _ _ i x hx
theorem uN_ser (u : U9) (p : List Nat) : uN (uSer u p) = 8 + u.d.length := by
  unfold uN
  rw [uSer_at u p 4 _ rfl, uSer_at u p 5 _ rfl]
  omega
theorem uS_ser (u : U9) (p : List Nat) : uS (uSer u p) = uSum u p := by
  unfold uS
  rw [uSer_at u p 6 _ rfl, uSer_at u p 7 _ rfl]
  omega
theorem uP_ser {v : Int} (u : U9) (p : List Nat) (h : uChk v u = 0) : uP (uSer u p) = u := by
  obtain ⟨_, h2, h3, _, h5⟩ := uChk_zero h
  have e1 : (uSer u p).drop 8 = u.d := by unfold uSer; exact List.drop_left' (by rfl)
  have e2 : decide (uS (uSer u p) = 0) = u.ns := by
    rw [uS_ser, Bool.eq_iff_iff, decide_eq_true_eq, uSum_zero]
  unfold uP
  rw [uN_ser, uSer_at u p 0 _ rfl, uSer_at u p 1 _ rfl, uSer_at u p 2 _ rfl, uSer_at u p 3 _ rfl, e1, e2, List.take_of_length_le (by omega)]
  obtain ⟨a, b, c, d⟩ := u
  simp only [U9.mk.injEq, and_true] at *
  omega
theorem uPE_ser {v : Int} (u : U9) (p : List Nat) (hp : p.length % 2 = 0) (h : uChk v u = 0) : uPE v true p (uSer u p) = 0 := by
  obtain ⟨_, h2, h3, h4, h5⟩ := uChk_zero h
  unfold uPE
  rw [uN_ser, uS_ser, uSer_len, if_neg (by omega), if_pos rfl, if_neg (by omega), if_neg (by omega), if_neg]
  rintro (⟨e1, e2⟩ | ⟨e1, e2⟩)
  · exact h4 ((uSum_zero u p).1 e1) e2
  · apply e2
    rw [List.take_of_length_le (by rw [uSer_len]; exact Nat.le_refl _)]
    refine uSer_good u p hp ?_
    cases hn : u.ns
    · rfl
    · exact absurd ((uSum_zero u p).2 hn) e1
theorem uPE_zero {v : Int} {ok : Bool} {p b : List Nat} (h : uPE v ok p b = 0) : b.length ≤ 65535 ∧ ok = true ∧ 8 ≤ uN b ∧ uN b ≤ b.length ∧ (uS b = 0 → v ≠ 6) ∧ (uS b ≠ 0 → S.fold (S.wv false (p ++ b.take (uN b))) = 65535) := by
  unfold uPE at h
  split at h; · omega
  split at h
  · split at h; · omega
    split at h; · omega
    split at h; · omega
    rename_i h1 h2 h3 h4 h5
    refine ⟨by omega, h2, by omega, by omega, fun e e2 => h5 (.inl ⟨e, e2⟩), fun e => ?_⟩
    exact Classical.byContradiction (fun e2 => h5 (.inr ⟨e, e2⟩))
  · omega
/-- what is read may be written -/
theorem uP_chk {v : Int} {ok : Bool} {p b : List Nat} (hv : v = 4 ∨ v = 6) (h256 : ∀ x ∈ b, x < 256) (h : uPE v ok p b = 0) : uChk v (uP b) = 0 ∧ 8 + (uP b).d.length = uN b := by
  obtain ⟨h1, h2, h3, h4, h5, h6⟩ := uPE_zero h
  have e : (uP b).d.length = uN b - 8 := by simp [uP]; omega
  have g := fun i => getD_lt b h256 i
  have := g 0
  have := g 1
  have := g 2
  have := g 3
  refine ⟨uChk_of hv (by simp only [uP]; omega) (by simp only [uP]; omega) (fun hn => ?_) (by omega), by omega⟩
  simp only [uP, decide_eq_true_eq] at hn
  exact h5 hn

structure T9 where
  sp : Int
  dp : Int
  sq : Int
  ak : Int
  fl : Int
  wi : Int
  ur : Int
  os : List (Int × List Nat)
  d : List Nat
def tOkF (t : T9) : Bool := inB t.sp 65535 && inB t.dp 65535 && inB t.sq 4294967295 && inB t.ak 4294967295 && inB t.fl 255 && inB t.wi 65535 && inB t.ur 65535
def lenTab : List (Int × Int) := [(2, 4), (3, 3), (4, 2), (5, 10), (5, 18), (5, 26), (5, 34), (8, 10)]
def lenOk (k n : Int) : Bool := lenTab.any (fun e => decide (e.1 = k) && decide (e.2 = n)) || !lenTab.any (fun e => decide (e.1 = k))
def lensOk (os : List (Int × List Nat)) : Bool := os.all (fun o => lenOk o.1 (o.2.length + 2 : Nat))
def tPutOk (os : List (Int × List Nat)) : Bool := putOk os && lensOk os
def tHs (t : T9) : Nat := 20 + (putO t.os).length
def tChk (t : T9) : Nat := if tOkF t then (if tPutOk t.os then (if 65535 < 20 + (putO t.os).length + t.d.length then 2 else 0) else 97) else 98
def tHd (t : T9) (s : Nat) : List Nat :=
  [t.sp.toNat / 256, t.sp.toNat % 256, t.dp.toNat / 256, t.dp.toNat % 256, t.sq.toNat / 16777216, t.sq.toNat / 65536 % 256, t.sq.toNat / 256 % 256, t.sq.toNat % 256,
    t.ak.toNat / 16777216, t.ak.toNat / 65536 % 256, t.ak.toNat / 256 % 256, t.ak.toNat % 256, tHs t / 4 * 16, t.fl.toNat, t.wi.toNat / 256, t.wi.toNat % 256, s / 256, s % 256, t.ur.toNat / 256, t.ur.toNat % 256]
def tRest (t : T9) : List Nat := putO t.os ++ t.d
def tSum (t : T9) (p : List Nat) : Nat := 65535 - S.fold (S.wv false (p ++ (tHd t 0 ++ tRest t)))
def tSer (t : T9) (p : List Nat) : List Nat := tHd t (tSum t p) ++ tRest t
def tPutE (ok : Bool) (t : T9) : Nat := if ok then tChk t else 20
def tH (b : List Nat) : Nat := b.getD 12 0 / 16 * 4
def tOb (b : List Nat) : List Nat := (b.drop 20).take (tH b - 20)
/-- what options a row holds -/
def readO (b : List Nat) : Option (List Op4) := if 40 < b.length then none else match scan b 0 with | none => none | some l => if lensOk (l.map (fun o => intO (ov b o))) then some l else none
def tPE (ok : Bool) (p b : List Nat) : Nat :=
  if 65535 < b.length then 2 else if ok then (if b.length < 20 then 94 else if tH b < 20 ∨ b.length < tH b then 95 else if S.fold (S.wv false (p ++ b)) ≠ 65535 then 96 else if readO (tOb b) = none then 97 else 0) else 20
def tP (b : List Nat) : T9 :=
  ⟨(b.getD 0 0 * 256 + b.getD 1 0 : Nat), (b.getD 2 0 * 256 + b.getD 3 0 : Nat), (((b.getD 4 0 * 256 + b.getD 5 0) * 256 + b.getD 6 0) * 256 + b.getD 7 0 : Nat), (((b.getD 8 0 * 256 + b.getD 9 0) * 256 + b.getD 10 0) * 256 + b.getD 11 0 : Nat),
    (b.getD 13 0 : Nat), (b.getD 14 0 * 256 + b.getD 15 0 : Nat), (b.getD 18 0 * 256 + b.getD 19 0 : Nat), ((readO (tOb b)).getD []).map (fun o => intO (ov (tOb b) o)), b.drop (tH b)⟩

theorem tHd_len (t : T9) (s : Nat) : (tHd t s).length = 20 := rfl
theorem tSer_len (t : T9) (p : List Nat) : (tSer t p).length = 20 + (putO t.os).length + t.d.length := by simp [tSer, tHd_len, tRest]; omega
theorem tHs_b (t : T9) : 20 ≤ tHs t ∧ tHs t ≤ 60 ∧ tHs t % 4 = 0 := by have := I4.put_len t.os; unfold tHs; omega
theorem tChk_zero {t : T9} (h : tChk t = 0) : tOkF t = true ∧ tPutOk t.os = true ∧ 20 + (putO t.os).length + t.d.length ≤ 65535 := by
  unfold tChk at h
  split at h
  · split at h
    · split at h
      · omega
      · rename_i h1 h2 h3; exact ⟨h1, h2, by omega⟩
    · omega
  · omega
theorem tChk_of {t : T9} (h1 : tOkF t = true) (h2 : tPutOk t.os = true) (h3 : 20 + (putO t.os).length + t.d.length ≤ 65535) : tChk t = 0 := by
  unfold tChk
  rw [if_pos h1, if_pos h2, if_neg (by omega)]
theorem tOkF_iff (t : T9) : tOkF t = true ↔ (0 ≤ t.sp ∧ t.sp ≤ 65535) ∧ (0 ≤ t.dp ∧ t.dp ≤ 65535) ∧ (0 ≤ t.sq ∧ t.sq ≤ 4294967295) ∧ (0 ≤ t.ak ∧ t.ak ≤ 4294967295) ∧ (0 ≤ t.fl ∧ t.fl ≤ 255) ∧ (0 ≤ t.wi ∧ t.wi ≤ 65535) ∧ (0 ≤ t.ur ∧ t.ur ≤ 65535) := by
  simp only [tOkF, Bool.and_eq_true, inB_iff]
  constructor
  · rintro ⟨⟨⟨⟨⟨⟨a, b⟩, c⟩, d⟩, e⟩, f⟩, g⟩; exact ⟨a, b, c, d, e, f, g⟩
  · rintro ⟨a, b, c, d, e, f, g⟩; exact ⟨⟨⟨⟨⟨⟨a, b⟩, c⟩, d⟩, e⟩, f⟩, g⟩
theorem tHd_256 (t : T9) (s : Nat) (h : tOkF t = true) (hs : s ≤ 65535) : ∀ x ∈ tHd t s, x < 256 := by
  obtain ⟨h1, h2, h3, h4, h5, h6, h7⟩ := (tOkF_iff t).1 h
  have := tHs_b t
  intro x hx
  simp only [tHd, List.mem_cons, List.not_mem_nil, or_false] at hx
  omega
theorem tSum_le (t : T9) (p : List Nat) : tSum t p ≤ 65535 := Nat.sub_le _ _
theorem wv_tHd (t : T9) (s : Nat) : S.wv false (tHd t s) = S.wv false (tHd t 0) + s := by
  simp only [tHd, S.wv]
  omega
theorem tMid (t : T9) (p r : List Nat) (s : Nat) (hp : p.length % 2 = 0) : S.wv false (p ++ (tHd t s ++ r)) = S.wv false (p ++ (tHd t 0 ++ r)) + s := by
  rw [wv_pre _ _ hp, wv_pre _ _ hp, wv_pre _ _ (by rw [tHd_len]), wv_pre _ _ (by rw [tHd_len]), wv_tHd t s]
  omega
theorem tSer_good (t : T9) (p : List Nat) (hp : p.length % 2 = 0) : S.fold (S.wv false (p ++ tSer t p)) = 65535 := by
  unfold tSer
  rw [tMid t p _ _ hp]
  exact S.own_good _
theorem tSer_at (t : T9) (p : List Nat) (i x : Nat) (hx : (tHd t (tSum t p))[i]? = some x) : (tSer t p).getD i 0 = x := by
  have hi : i < (tHd t (tSum t p)).length := by
    rcases Nat.lt_or_ge i (tHd t (tSum t p)).length with q | q
    · exact q
    · rw [List.getElem?_eq_none q] at hx; cases hx
  unfold tSer
  rw [getD_app1 _ _ _ hi, List.getD_eq_getElem?_getD, hx]
  rfl
theorem tH_ser (t : T9) (p : List Nat) : tH (tSer t p) = tHs t := by
  have := tHs_b t
  unfold tH
  rw [tSer_at t p 12 _ rfl]
  omega
theorem tOb_ser (t : T9) (p : List Nat) : tOb (tSer t p) = putO t.os := by
  unfold tOb
  rw [tH_ser]
  have e1 : (tSer t p).drop 20 = tRest t := by unfold tSer; exact List.drop_left' (by rfl)
  rw [e1]
  unfold tRest tHs
  exact List.take_left' (by omega)
/-- what is put is read -/
theorem read_put (os : List (Int × List Nat)) (h : tPutOk os = true) : ∃ l, readO (putO os) = some l ∧ l.map (fun o => intO (ov (putO os) o)) = os := by
  simp only [tPutOk, Bool.and_eq_true] at h
  obtain ⟨h1, h2⟩ := h
  have h1' := h1
  simp only [putOk, Bool.and_eq_true, decide_eq_true_eq] at h1'
  have e : putO os = [] ++ (I4.flatO (os.map natO) ++ List.replicate ((4 - (flatI os).length % 4) % 4) 0) := by
    unfold putO
    rw [if_pos h1]
    rfl
  have hk : ∀ o ∈ os.map natO, 2 ≤ o.1 ∧ o.2.length ≤ 253 := by
    intro o ho
    obtain ⟨q, hq, rfl⟩ := List.mem_map.1 ho
    have := List.all_eq_true.1 h1'.1 q hq
    simp only [okO, Bool.and_eq_true, decide_eq_true_eq] at this
    simp only [natO]
    omega
  obtain ⟨m, hm1, hm2⟩ := I4.scan_flat (os.map natO) [] ((4 - (flatI os).length % 4) % 4) hk
  rw [← e] at hm1 hm2
  rw [List.length_nil] at hm1
  have hos : m.map (fun o => intO (ov (putO os) o)) = os := by
    have : m.map (fun o => intO (ov (putO os) o)) = (m.map (ov (putO os))).map intO := by rw [List.map_map]; rfl
    rw [this, hm2, I4.intO_natO os h1'.1]
  refine ⟨m, ?_, hos⟩
  have hl := (I4.put_len os).1
  unfold readO
  rw [if_neg (by omega), hm1]
  show (if lensOk (m.map (fun o => intO (ov (putO os) o))) then some m else none) = some m
  rw [hos, if_pos h2]
theorem tP_ser (t : T9) (p : List Nat) (h : tChk t = 0) : tP (tSer t p) = t := by
  obtain ⟨hf, ho, hl⟩ := tChk_zero h
  obtain ⟨h1, h2, h3, h4, h5, h6, h7⟩ := (tOkF_iff t).1 hf
  obtain ⟨l, hl1, hl2⟩ := read_put t.os ho
  have e1 : (tSer t p).drop (tHs t) = t.d := by
    have : tSer t p = (tHd t (tSum t p) ++ putO t.os) ++ t.d := by simp [tSer, tRest]
    rw [this]
    exact List.drop_left' (by simp [tHd_len, tHs])
  unfold tP
  rw [tOb_ser, tH_ser, hl1, e1]
  simp only [Option.getD_some]
  rw [hl2, tSer_at t p 0 _ rfl, tSer_at t p 1 _ rfl, tSer_at t p 2 _ rfl, tSer_at t p 3 _ rfl, tSer_at t p 4 _ rfl, tSer_at t p 5 _ rfl, tSer_at t p 6 _ rfl, tSer_at t p 7 _ rfl, tSer_at t p 8 _ rfl, tSer_at t p 9 _ rfl,
    tSer_at t p 10 _ rfl, tSer_at t p 11 _ rfl, tSer_at t p 13 _ rfl, tSer_at t p 14 _ rfl, tSer_at t p 15 _ rfl, tSer_at t p 18 _ rfl, tSer_at t p 19 _ rfl]
  obtain ⟨a, b, c, d, e, f, g, o, x⟩ := t
  simp only [T9.mk.injEq, and_true] at *
  omega
theorem tPE_ser (t : T9) (p : List Nat) (hp : p.length % 2 = 0) (h : tChk t = 0) : tPE true p (tSer t p) = 0 := by
  obtain ⟨hf, ho, hl⟩ := tChk_zero h
  obtain ⟨l, hl1, hl2⟩ := read_put t.os ho
  have := tHs_b t
  unfold tPE
  rw [tH_ser, tSer_len, tOb_ser, hl1, if_neg (by omega), if_pos rfl, if_neg (by omega), if_neg (by unfold tHs; omega), if_neg (by rw [tSer_good t p hp]; simp), if_neg (by simp)]
theorem tPE_zero {ok : Bool} {p b : List Nat} (h : tPE ok p b = 0) : b.length ≤ 65535 ∧ ok = true ∧ 20 ≤ tH b ∧ tH b ≤ b.length ∧ S.fold (S.wv false (p ++ b)) = 65535 ∧ ∃ l, readO (tOb b) = some l := by
  unfold tPE at h
  split at h; · omega
  split at h
  · split at h; · omega
    split at h; · omega
    split at h; · omega
    split at h; · omega
    rename_i h1 h2 h3 h4 h5 h6
    refine ⟨by omega, h2, by omega, by omega, Classical.byContradiction (fun e => h5 e), ?_⟩
    cases e : readO (tOb b) with
    | none => exact absurd e h6
    | some l => exact ⟨l, rfl⟩
  · omega
theorem readO_some {b : List Nat} {l : List Op4} (h : readO b = some l) : b.length ≤ 40 ∧ scan b 0 = some l ∧ lensOk (l.map (fun o => intO (ov b o))) = true := by
  unfold readO at h
  split at h
  · cases h
  · rename_i h1
    cases e : scan b 0 with
    | none => rw [e] at h; cases h
    | some m =>
      rw [e] at h
      simp only at h
      split at h
      · rename_i h2
        cases h
        exact ⟨by omega, rfl, h2⟩
      · cases h
/-- what is read may be put, and is not longer -/
theorem put_read {b : List Nat} {l : List Op4} (h256 : ∀ x ∈ b, x < 256) (h : readO b = some l) : tPutOk (l.map (fun o => intO (ov b o))) = true ∧ (flatI (l.map (fun o => intO (ov b o)))).length ≤ b.length := by
  obtain ⟨h1, h2, h3⟩ := readO_some h
  obtain ⟨i1, i2⟩ := I4.scan_in b 0 l h2 (Nat.zero_le _) h256
  have e1 : flatI (l.map (fun o => intO (ov b o))) = I4.flatO (l.map (ov b)) := by
    unfold flatI
    have : l.map (fun o => intO (ov b o)) = (l.map (ov b)).map intO := by rw [List.map_map]; rfl
    rw [this, I4.natO_intO]
  have e2 : (l.map (fun o => intO (ov b o))).all okO = true := by
    rw [List.all_eq_true]
    intro q hq
    obtain ⟨o, ho, rfl⟩ := List.mem_map.1 hq
    have := i1 o ho
    simp only [okO, intO, ov, Bool.and_eq_true, decide_eq_true_eq, List.length_take, List.length_drop]
    refine ⟨⟨decide_eq_true ?_, decide_eq_true ?_⟩, ?_⟩ <;> omega
  refine ⟨?_, by rw [e1]; omega⟩
  simp only [tPutOk, putOk, Bool.and_eq_true, decide_eq_true_eq]
  exact ⟨⟨e2, by rw [e1]; omega⟩, h3⟩
theorem putO_le {os : List (Int × List Nat)} {n : Nat} (h : (flatI os).length ≤ n) (hn : n % 4 = 0) : (putO os).length ≤ n := by
  unfold putO
  split
  · rw [I4.pad4_len]; omega
  · simp
/-- what is read may be written, and is not longer -/
theorem tP_chk {ok : Bool} {p b : List Nat} (h256 : ∀ x ∈ b, x < 256) (h : tPE ok p b = 0) : tChk (tP b) = 0 ∧ 20 + (putO (tP b).os).length + (tP b).d.length ≤ b.length := by
  obtain ⟨h1, h2, h3, h4, h5, l, h6⟩ := tPE_zero h
  have g := fun i => getD_lt b h256 i
  have o256 : ∀ x ∈ tOb b, x < 256 := fun x hx => h256 x (List.mem_of_mem_drop (List.mem_of_mem_take hx))
  obtain ⟨q1, q2⟩ := put_read o256 h6
  have eo : (tP b).os = l.map (fun o => intO (ov (tOb b) o)) := by simp only [tP, h6, Option.getD_some]
  have el : (tOb b).length = tH b - 20 := by simp [tOb]; omega
  have hm : (tH b - 20) % 4 = 0 := by unfold tH at *; omega
  have ll : (putO (tP b).os).length ≤ tH b - 20 := putO_le (by rw [eo, ← el]; exact q2) hm
  have ld : (tP b).d.length = b.length - tH b := by simp [tP]
  have := g 0
  have := g 1
  have := g 2
  have := g 3
  have := g 4
  have := g 5
  have := g 6
  have := g 7
  have := g 8
  have := g 9
  have := g 10
  have := g 11
  have := g 13
  have := g 14
  have := g 15
  have := g 18
  have := g 19
  refine ⟨tChk_of ((tOkF_iff _).2 ?_) (by rw [eo]; exact q1) (by omega), by omega⟩
  simp only [tP]
  omega

/-- the greatest segment that one option tells -/
def tells (o : Int × List Nat) : Bool := decide (o.1 = 2) && decide (o.2.length = 2)
def toldV (o : Int × List Nat) : Nat := if tells o then o.2.getD 0 0 * 256 + o.2.getD 1 0 else 0
def mss : List (Int × List Nat) → Nat × Bool
  | [] => (0, false)
  | o :: l => if tells o then (toldV o, true) else mss l
def clO (syn : Bool) (m : Nat) (o : Int × List Nat) : Int × List Nat := if tells o && decide (m < toldV o) && syn then (o.1, [m / 256, m % 256]) else o
end Go.Proofs.YtfoeepbndfnifaaDoor.L4
