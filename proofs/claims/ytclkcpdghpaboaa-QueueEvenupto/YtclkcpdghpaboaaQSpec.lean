/-
  Layer 18 in numbers: classes, the turn of the round robin, its walk and its end, the invariant of every queue.
-/
import Derived.Test.YtclkcpdghpaboaaBase
namespace Go.Proofs.Ytclkcpdghpaboaa

/-- a class's limits -/
structure LI where
  q : Int
  it : Int
  by' : Int
  ra : Int
  bu : Int
/-- a class: its line (number, size), its tokens -/
structure CL where
  li : LI
  L : List (Int × Int)
  tk : Int
def szL : List (Int × Int) → Int
  | [] => 0
  | x :: L => x.2 + szL L
def hdS : List (Int × Int) → Int
  | [] => 0
  | x :: _ => x.2
def hdN : List (Int × Int) → Int
  | [] => 0
  | x :: _ => x.1
theorem szL_app (L M : List (Int × Int)) : szL (L ++ M) = szL L + szL M := by
  induction L with
  | nil => simp [szL]
  | cons x L ih => simp only [List.cons_append, szL, ih]; omega
theorem szL_tail (L : List (Int × Int)) : szL L.tail = szL L - hdS L := by
  cases L with
  | nil => rfl
  | cons x L => simp only [List.tail_cons, szL, hdS]; omega
def wtB (L : List (Int × Int)) : Bool := decide (0 < L.length)
def CL.held (c : CL) : Bool := decide (0 < c.li.ra) && (wtB c.L && decide (c.tk < hdS c.L))
def CL.rdy (c : CL) : Bool := wtB c.L && !c.held
structure TN where
  at' : Nat
  gv : Bool
  de : Nat → Int
def up (f : Nat → Int) (i : Nat) (v : Int) : Nat → Int := fun j => if j = i then v else f j
theorem up_same (f : Nat → Int) (i : Nat) (v : Int) : up f i v i = v := if_pos rfl
theorem up_ne {f : Nat → Int} {i j : Nat} {v : Int} (h : j ≠ i) : up f i v j = f j := if_neg h
def lz : LI := ⟨0, 0, 0, 0, 0⟩
def cz : CL := ⟨lz, [], 0⟩
def cAt (cs : List CL) (i : Nat) : CL := cs.getD i cz
theorem cAt_some {cs : List CL} {i : Nat} {c : CL} (h : cs[i]? = some c) : cAt cs i = c := by simp [cAt, List.getD, h]
theorem cAt_get {cs : List CL} {i : Nat} (h : i < cs.length) : cs[i]? = some (cAt cs i) := by simp [cAt, List.getD, h]
/-- the class at the pointer is given its quantum -/
def gr (cs : List CL) (t : TN) : TN := if (cAt cs t.at').rdy && !t.gv then ⟨t.at', true, up t.de t.at' (t.de t.at' + (cAt cs t.at').li.q)⟩ else t
def srv (cs : List CL) (t : TN) : Bool := (cAt cs t.at').rdy && decide (hdS (cAt cs t.at').L ≤ (gr cs t).de t.at')
/-- the pointer leaves a class -/
def lvT (cs : List CL) (t : TN) : TN := if (cAt cs t.at').held then ⟨t.at', t.gv, up t.de t.at' (min (t.de t.at') (hdS (cAt cs t.at').L))⟩ else t
def nxt (cs : List CL) (t : TN) : TN := ⟨(t.at' + 1) % cs.length, false, (lvT cs (gr cs t)).de⟩
theorem gr_at (cs : List CL) (t : TN) : (gr cs t).at' = t.at' := by unfold gr; split <;> rfl
theorem lvT_at (cs : List CL) (t : TN) : (lvT cs t).at' = t.at' := by unfold lvT; split <;> rfl
/-- where the walk ends -/
inductive Run (cs : List CL) : TN → TN → Prop
  | stop (t : TN) : srv cs t = true → Run cs t (gr cs t)
  | step (t u : TN) : srv cs t = false → Run cs (nxt cs t) u → Run cs t u
theorem Run.det {cs : List CL} {t u u' : TN} (h : Run cs t u) (h' : Run cs t u') : u = u' := by
  induction h with
  | stop t hs =>
    cases h' with
    | stop _ _ => rfl
    | step _ _ hs' _ => rw [hs] at hs'; cases hs'
  | step t u hs _ ih =>
    cases h' with
    | stop _ hs' => rw [hs] at hs'; cases hs'
    | step _ _ _ hr => exact ih hr
open Classical in
noncomputable def fin (cs : List CL) (t : TN) : TN := if h : ∃ u, Run cs t u then Classical.choose h else t
theorem Run.fin {cs : List CL} {t u : TN} (h : Run cs t u) : fin cs t = u := by
  unfold Go.Proofs.Ytclkcpdghpaboaa.fin
  rw [dif_pos ⟨u, h⟩]
  exact (Classical.choose_spec (⟨u, h⟩ : ∃ u, Run cs t u)).det h
/-- limits that may be -/
structure LiOk (l : LI) : Prop where
  q : 64 ≤ l.q ∧ l.q ≤ 65535
  it : 1 ≤ l.it ∧ l.it ≤ 4096
  by' : 1 ≤ l.by' ∧ l.by' ≤ 67108864
  ra : 0 ≤ l.ra ∧ l.ra ≤ 67108864
  bu : 0 < l.ra → 65535 ≤ l.bu ∧ l.bu ≤ 268435456
structure ClOk (c : CL) : Prop where
  li : LiOk c.li
  len : (c.L.length : Int) ≤ c.li.it
  sz : szL c.L ≤ c.li.by'
  el : ∀ x ∈ c.L, 1 ≤ x.2 ∧ x.2 ≤ 65535
  tk : 0 < c.li.ra → 0 ≤ c.tk ∧ c.tk ≤ c.li.bu
structure TnOk (cs : List CL) (t : TN) : Prop where
  at' : t.at' < cs.length
  lo : ∀ i, i < 8 → 0 ≤ t.de i
  hi : ∀ i, i < 8 → (i = t.at' ∧ t.gv = true) ∨ t.de i ≤ 65535
  up : ∀ i, i < 8 → t.de i ≤ 131070
  em : ∀ i, i < cs.length → (cAt cs i).L = [] → t.de i = 0
structure QOk (cs : List CL) (t : TN) : Prop where
  len : 1 ≤ cs.length ∧ cs.length ≤ 8
  cl : ∀ c ∈ cs, ClOk c
  tn : TnOk cs t
theorem QOk.c {cs : List CL} {t : TN} (h : QOk cs t) {i : Nat} (hi : i < cs.length) : ClOk (cAt cs i) := h.cl _ (List.mem_of_getElem? (cAt_get hi))
theorem ClOk.hd {c : CL} (h : ClOk c) : 0 ≤ hdS c.L ∧ hdS c.L ≤ 65535 := by
  cases hL : c.L with
  | nil => simp [hdS]
  | cons x L => have := h.el x (by rw [hL]; exact List.mem_cons_self); simp only [hdS]; omega
theorem rdy_ne {c : CL} (h : c.rdy = true) : c.L ≠ [] := by
  intro e
  simp [CL.rdy, wtB, e] at h
theorem rdy_held {c : CL} (h : c.rdy = true) : c.held = false := by
  simp only [CL.rdy, Bool.and_eq_true, Bool.not_eq_true'] at h
  exact h.2
theorem gr_ok {cs : List CL} {t : TN} (h : QOk cs t) : TnOk cs (gr cs t) := by
  have ha := h.tn.at'
  have h8 : t.at' < 8 := by have := h.len.2; omega
  unfold gr
  split
  · rename_i hc
    simp only [Bool.and_eq_true, Bool.not_eq_true'] at hc
    have hq := (h.c ha).li.q
    have h1 := h.tn.lo t.at' h8
    have h2 : t.de t.at' ≤ 65535 := (h.tn.hi t.at' h8).resolve_left (fun e => by rw [hc.2] at e; cases e.2)
    refine ⟨ha, fun i hi => ?_, fun i hi => ?_, fun i hi => ?_, fun i hi he => ?_⟩
    · show 0 ≤ Go.Proofs.Ytclkcpdghpaboaa.up _ _ _ i
      unfold Go.Proofs.Ytclkcpdghpaboaa.up; split
      · omega
      · exact h.tn.lo i hi
    · show (i = t.at' ∧ true = true) ∨ Go.Proofs.Ytclkcpdghpaboaa.up _ _ _ i ≤ 65535
      by_cases e : i = t.at'
      · exact .inl ⟨e, rfl⟩
      · rw [up_ne e]; exact .inr ((h.tn.hi i hi).resolve_left (fun x => e x.1))
    · show Go.Proofs.Ytclkcpdghpaboaa.up _ _ _ i ≤ 131070
      unfold Go.Proofs.Ytclkcpdghpaboaa.up; split
      · omega
      · exact h.tn.up i hi
    · show Go.Proofs.Ytclkcpdghpaboaa.up _ _ _ i = 0
      by_cases e : i = t.at'
      · subst e; exact absurd he (rdy_ne hc.1)
      · rw [up_ne e]; exact h.tn.em i hi he
  · exact h.tn
theorem nxt_ok {cs : List CL} {t : TN} (h : QOk cs t) (hs : srv cs t = false) : TnOk cs (nxt cs t) := by
  have ha := h.tn.at'
  have h8 : t.at' < 8 := by have := h.len.2; omega
  have hg := gr_ok h
  have hga := gr_at cs t
  have hb := (h.c ha).hd
  have key : ∀ i, i < 8 → 0 ≤ (lvT cs (gr cs t)).de i ∧ (lvT cs (gr cs t)).de i ≤ 65535 ∧ (lvT cs (gr cs t)).de i ≤ (gr cs t).de i := fun i hi => by
    have g1 := hg.lo i hi
    unfold lvT
    rw [hga]
    split
    · show 0 ≤ up _ _ _ i ∧ up _ _ _ i ≤ 65535 ∧ up _ _ _ i ≤ _
      by_cases e : i = t.at'
      · subst e; rw [up_same]; omega
      · rw [up_ne e]; have := (hg.hi i hi).resolve_left (fun x => e (x.1.trans hga)); omega
    · rename_i hh
      refine ⟨g1, ?_, Int.le_refl _⟩
      by_cases e : i = t.at'
      · subst e
        by_cases hr : (cAt cs t.at').rdy = true
        · unfold srv at hs
          rw [hr, Bool.true_and] at hs
          have := of_decide_eq_false hs
          omega
        · have hr' : (cAt cs t.at').rdy = false := by simpa using hr
          have hgr : gr cs t = t := by unfold gr; rw [hr']; rfl
          have hL : (cAt cs t.at').L = [] := by
            have hh' : (cAt cs t.at').held = false := by simpa using hh
            simp only [CL.rdy, hh', Bool.not_false, Bool.and_true, wtB] at hr'
            have := of_decide_eq_false hr'
            exact List.eq_nil_of_length_eq_zero (by omega)
          rw [hgr, h.tn.em _ ha hL]
          omega
      · have := (hg.hi i hi).resolve_left (fun x => e (x.1.trans hga)); omega
  refine ⟨Nat.mod_lt _ (by have := h.len.1; omega), fun i hi => (key i hi).1, fun i hi => .inr (key i hi).2.1, fun i hi => ?_, fun i hi he => ?_⟩
  · have := (key i hi).2.1
    show (lvT cs (gr cs t)).de i ≤ 131070
    omega
  · have h1 := key i (by have := h.len.2; omega)
    have h2 := hg.em i hi he
    show (lvT cs (gr cs t)).de i = 0
    omega
theorem QOk.gr {cs : List CL} {t : TN} (h : QOk cs t) : QOk cs (gr cs t) := ⟨h.len, h.cl, gr_ok h⟩
theorem QOk.nxt {cs : List CL} {t : TN} (h : QOk cs t) (hs : srv cs t = false) : QOk cs (nxt cs t) := ⟨h.len, h.cl, nxt_ok h hs⟩
/-- how far the walk still is from the class k -/
def mzT (n k : Nat) (hd : Int) (a : Nat) (g : Bool) (d : Int) : Nat := n * (hd - d).toNat + (k + n - a) % n + (if a = k ∧ g = true then n else 0)
def mz (cs : List CL) (k : Nat) (t : TN) : Nat := mzT cs.length k (hdS (cAt cs k).L) t.at' t.gv (t.de k)
theorem mz_nxt {cs : List CL} {t : TN} {k : Nat} (h : QOk cs t) (hk : k < cs.length) (hr : (cAt cs k).rdy = true) (hs : srv cs t = false) : mz cs k (nxt cs t) < mz cs k t := by
  have ha := h.tn.at'
  have hn : 0 < cs.length := by omega
  obtain ⟨n, hne⟩ : ∃ n, n = cs.length := ⟨_, rfl⟩
  have hde : k ≠ t.at' → (nxt cs t).de k = t.de k := fun hne => by
    show (lvT cs (gr cs t)).de k = _
    unfold lvT
    rw [gr_at]
    split
    · show up _ _ _ k = _
      rw [up_ne hne]
      unfold gr; split
      · exact up_ne hne
      · rfl
    · unfold gr; split
      · exact up_ne hne
      · rfl
  have hat : (nxt cs t).at' = (t.at' + 1) % cs.length := rfl
  have hgv : (nxt cs t).gv = false := rfl
  have hkn : k < n := hne ▸ hk
  have han : t.at' < n := hne ▸ ha
  unfold mz mzT
  rw [hat, hgv, ← hne]
  simp only [Bool.false_eq_true, and_false, if_false, Nat.add_zero]
  by_cases e : t.at' = k
  · have hlt : (k + n - (t.at' + 1) % n) % n ≤ n - 1 := by have := Nat.mod_lt (k + n - (t.at' + 1) % n) (show 0 < n by omega); omega
    have h0 : (k + n - t.at') % n = 0 := by rw [e, Nat.add_sub_cancel_left, Nat.mod_self]
    rw [h0]
    have hs' := hs
    unfold srv at hs'
    rw [e, hr, Bool.true_and] at hs'
    have hs2 := of_decide_eq_false hs'
    have hl : (nxt cs t).de k = (gr cs t).de k := by
      show (lvT cs (gr cs t)).de k = _
      unfold lvT
      rw [gr_at, e, rdy_held hr]
      rfl
    rw [hl]
    cases hg : t.gv with
    | true =>
      have hgr : gr cs t = t := by unfold gr; rw [hg]; simp
      rw [hgr, if_pos ⟨e, rfl⟩]
      omega
    | false =>
      have hgr : (gr cs t).de k = t.de k + (cAt cs k).li.q := by unfold gr; rw [hg, e, hr]; exact up_same _ _ _
      rw [hgr] at hs2 ⊢
      have hq := (h.c hk).li.q
      rw [if_neg (by simp)]
      obtain ⟨x, hx⟩ : ∃ x, x = (hdS (cAt cs k).L - (t.de k + (cAt cs k).li.q)).toNat := ⟨_, rfl⟩
      obtain ⟨y, hy⟩ : ∃ y, y = (hdS (cAt cs k).L - t.de k).toNat := ⟨_, rfl⟩
      rw [← hx, ← hy]
      have hxy : x + 1 ≤ y := by omega
      have := Nat.mul_le_mul_left n hxy
      rw [Nat.mul_add, Nat.mul_one] at this
      omega
  · rw [hde (fun x => e x.symm), if_neg (fun x => e x.1)]
    have h1 : (k + n - (t.at' + 1) % n) % n < (k + n - t.at') % n := by
      by_cases e1 : t.at' + 1 = n
      · rw [e1, Nat.mod_self, Nat.sub_zero, Nat.add_mod_right, Nat.mod_eq_of_lt (by omega), Nat.mod_eq_of_lt (by omega)]
        omega
      · rw [Nat.mod_eq_of_lt (show t.at' + 1 < n by omega)]
        by_cases e2 : t.at' < k
        · rw [show k + n - t.at' = (k - t.at') + n by omega, Nat.add_mod_right, show k + n - (t.at' + 1) = (k - t.at' - 1) + n by omega, Nat.add_mod_right, Nat.mod_eq_of_lt (by omega), Nat.mod_eq_of_lt (by omega)]
          omega
        · rw [Nat.mod_eq_of_lt (by omega), Nat.mod_eq_of_lt (by omega)]
          omega
    omega
def anyR (cs : List CL) : Bool := cs.any CL.rdy
theorem any_some {cs : List CL} (h : anyR cs = true) : ∃ k, k < cs.length ∧ (cAt cs k).rdy = true := by
  unfold anyR at h
  rw [List.any_eq_true] at h
  obtain ⟨c, hc, hr⟩ := h
  obtain ⟨k, hk⟩ := List.getElem?_of_mem hc
  exact ⟨k, (List.getElem?_eq_some_iff.1 hk).1, by rw [cAt_some hk]; exact hr⟩
theorem run_some {cs : List CL} {k : Nat} (hk : k < cs.length) (hr : (cAt cs k).rdy = true) : ∀ (m : Nat) (t : TN), QOk cs t → mz cs k t ≤ m → ∃ u, Run cs t u := by
  intro m
  induction m with
  | zero =>
    intro t h hm
    cases hs : srv cs t with
    | true => exact ⟨_, .stop t hs⟩
    | false => have := mz_nxt h hk hr hs; omega
  | succ m ih =>
    intro t h hm
    cases hs : srv cs t with
    | true => exact ⟨_, .stop t hs⟩
    | false =>
      have := mz_nxt h hk hr hs
      obtain ⟨u, hu⟩ := ih (nxt cs t) (h.nxt hs) (by omega)
      exact ⟨u, .step t u hs hu⟩
theorem run_fin {cs : List CL} {t : TN} (h : QOk cs t) (ha : anyR cs = true) : Run cs t (fin cs t) := by
  obtain ⟨k, hk, hr⟩ := any_some ha
  obtain ⟨u, hu⟩ := run_some hk hr _ t h (Nat.le_refl _)
  rw [hu.fin]
  exact hu
/-- what holds where the walk ends -/
theorem Run.end' {cs : List CL} {t u : TN} (h : Run cs t u) : QOk cs t → QOk cs u ∧ (cAt cs u.at').rdy = true ∧ hdS (cAt cs u.at').L ≤ u.de u.at' ∧ u.gv = true := by
  induction h with
  | stop t hs =>
    intro hq
    have hs' := hs
    unfold srv at hs'
    simp only [Bool.and_eq_true, decide_eq_true_eq] at hs'
    refine ⟨hq.gr, by rw [gr_at]; exact hs'.1, by rw [gr_at]; exact hs'.2, ?_⟩
    unfold gr
    rw [hs'.1]
    cases hg : t.gv <;> simp [hg]
  | step t u hs _ ih => intro hq; exact ih (hq.nxt hs)
/-- what Pop leaves -/
def takeC (c : CL) : CL := ⟨c.li, c.L.tail, if 0 < c.li.ra then c.tk - hdS c.L else c.tk⟩
def popD (cs : List CL) (u : TN) : TN := ⟨u.at', u.gv, up u.de u.at' (if wtB (cAt cs u.at').L.tail then u.de u.at' - hdS (cAt cs u.at').L else 0)⟩
def popCs (cs : List CL) (u : TN) : List CL := cs.set u.at' (takeC (cAt cs u.at'))
theorem take_ok {c : CL} (h : ClOk c) (hr : c.rdy = true) : ClOk (takeC c) := by
  have hne := rdy_ne hr
  have hh := rdy_held hr
  cases hL : c.L with
  | nil => exact absurd hL hne
  | cons x L =>
    have hx := h.el x (by rw [hL]; exact List.mem_cons_self)
    have h1 := h.len
    have h2 := h.sz
    rw [hL] at h1 h2
    simp only [List.length_cons, szL] at h1 h2
    refine ⟨h.li, ?_, ?_, fun y hy => h.el y ?_, fun hra => ?_⟩
    · simp only [takeC, hL, List.tail_cons]; omega
    · simp only [takeC, hL, List.tail_cons]; omega
    · simp only [takeC, hL, List.tail_cons] at hy; rw [hL]; exact List.mem_cons_of_mem _ hy
    · have hra' : 0 < c.li.ra := hra
      have h3 := h.tk hra'
      simp only [CL.held, wtB, hL, hdS, List.length_cons, Bool.and_eq_false_iff, decide_eq_false_iff_not] at hh
      simp only [takeC, hL, hdS, if_pos hra']
      omega
theorem cAt_set_same {cs : List CL} {i : Nat} {c : CL} (h : i < cs.length) : cAt (cs.set i c) i = c := cAt_some (by rw [List.getElem?_set_self h])
theorem cAt_set_ne {cs : List CL} {i j : Nat} {c : CL} (h : j ≠ i) : cAt (cs.set i c) j = cAt cs j := by simp only [cAt, List.getD]; rw [List.getElem?_set_ne (fun e => h e.symm)]
theorem mem_set_cl {cs : List CL} {i : Nat} {c : CL} {P : CL → Prop} (h : ∀ x ∈ cs, P x) (hc : P c) : ∀ x ∈ cs.set i c, P x := fun x hx => (List.mem_or_eq_of_mem_set hx).elim (h x) (fun e => e ▸ hc)
theorem pop_ok {cs : List CL} {u : TN} (h : QOk cs u) (hr : (cAt cs u.at').rdy = true) (hd : hdS (cAt cs u.at').L ≤ u.de u.at') (hg : u.gv = true) : QOk (popCs cs u) (popD cs u) := by
  have ha := h.tn.at'
  have h8 : u.at' < 8 := by have := h.len.2; omega
  have hb := (h.c ha).hd
  have hu := h.tn.up u.at' h8
  refine ⟨by unfold popCs; rw [List.length_set]; exact h.len, mem_set_cl h.cl (take_ok (h.c ha) hr), ⟨by unfold popCs popD; rw [List.length_set]; exact ha, fun i hi => ?_, fun i hi => ?_, fun i hi => ?_, fun i hi he => ?_⟩⟩
  · show 0 ≤ up _ _ _ i
    by_cases e : i = u.at'
    · subst e; rw [up_same]; split <;> omega
    · rw [up_ne e]; exact h.tn.lo i hi
  · show (i = u.at' ∧ u.gv = true) ∨ up _ _ _ i ≤ 65535
    by_cases e : i = u.at'
    · exact .inl ⟨e, hg⟩
    · rw [up_ne e]; exact .inr ((h.tn.hi i hi).resolve_left (fun x => e x.1))
  · show up _ _ _ i ≤ 131070
    by_cases e : i = u.at'
    · subst e; rw [up_same]; split <;> omega
    · rw [up_ne e]; exact h.tn.up i hi
  · show up _ _ _ i = 0
    unfold popCs at hi he
    rw [List.length_set] at hi
    by_cases e : i = u.at'
    · subst e
      rw [cAt_set_same ha] at he
      have he' : (cAt cs u.at').L.tail = [] := he
      rw [up_same, he']
      rfl
    · rw [up_ne e]
      rw [cAt_set_ne e] at he
      exact h.tn.em i hi he
/-- Push -/
def room (c : CL) (size : Int) : Bool := decide ((c.L.length : Int) < c.li.it) && decide (szL c.L + size ≤ c.li.by')
def joinC (c : CL) (size number : Int) : CL := ⟨c.li, c.L ++ [(number, size)], c.tk⟩
def pushE (cs : List CL) (i size : Int) : Int := if 0 ≤ i ∧ i ≤ (cs.length : Int) - 1 then (if 1 ≤ size ∧ size ≤ 65535 then (if room (cAt cs i.toNat) size then 0 else 183) else 182) else 181
def pushCs (cs : List CL) (i size number : Int) : List CL := if pushE cs i size = 0 then cs.set i.toNat (joinC (cAt cs i.toNat) size number) else cs
theorem push_zero {cs : List CL} {i size : Int} (h : pushE cs i size = 0) : (0 ≤ i ∧ i.toNat < cs.length) ∧ (1 ≤ size ∧ size ≤ 65535) ∧ room (cAt cs i.toNat) size = true := by
  unfold pushE at h
  split at h
  · split at h
    · split at h
      · exact ⟨by omega, by assumption, by assumption⟩
      · cases h
    · cases h
  · cases h
theorem join_ok {c : CL} {size number : Int} (h : ClOk c) (hs : 1 ≤ size ∧ size ≤ 65535) (hr : room c size = true) : ClOk (joinC c size number) := by
  unfold room at hr
  simp only [Bool.and_eq_true, decide_eq_true_eq] at hr
  refine ⟨h.li, ?_, ?_, fun x hx => ?_, h.tk⟩
  · simp only [joinC, List.length_append, List.length_cons, List.length_nil]; omega
  · simp only [joinC, szL_app, szL]; omega
  · simp only [joinC, List.mem_append, List.mem_singleton] at hx
    rcases hx with hx | rfl
    · exact h.el x hx
    · exact hs
theorem push_ok {cs : List CL} {t : TN} {i size number : Int} (h : QOk cs t) : QOk (pushCs cs i size number) t := by
  unfold pushCs
  split
  · rename_i h0
    obtain ⟨hi, hs, hr⟩ := push_zero h0
    refine ⟨by rw [List.length_set]; exact h.len, mem_set_cl h.cl (join_ok (h.c hi.2) hs hr), ⟨by rw [List.length_set]; exact h.tn.at', h.tn.lo, h.tn.hi, h.tn.up, fun j hj he => ?_⟩⟩
    rw [List.length_set] at hj
    by_cases e : j = i.toNat
    · subst e
      rw [cAt_set_same hi.2] at he
      simp [joinC] at he
    · rw [cAt_set_ne e] at he
      exact h.tn.em j hj he
  · exact h
/-- Tick -/
def fillC (c : CL) : CL := if 0 < c.li.ra then ⟨c.li, c.L, min (c.tk + c.li.ra) c.li.bu⟩ else c
theorem fill_L (c : CL) : (fillC c).L = c.L := by unfold fillC; split <;> rfl
theorem fill_li (c : CL) : (fillC c).li = c.li := by unfold fillC; split <;> rfl
theorem fill_ok {c : CL} (h : ClOk c) : ClOk (fillC c) := by
  unfold fillC
  split
  · rename_i hr
    refine ⟨h.li, h.len, h.sz, h.el, fun _ => ?_⟩
    have h1 := h.tk hr
    have h2 := h.li.ra
    have h3 := h.li.bu hr
    show 0 ≤ min _ _ ∧ min _ _ ≤ _
    dsimp only
    omega
  · exact h
theorem cAt_map (cs : List CL) (i : Nat) (h : i < cs.length) : cAt (cs.map fillC) i = fillC (cAt cs i) := cAt_some (by rw [List.getElem?_map, cAt_get h]; rfl)
theorem tick_ok {cs : List CL} {t : TN} (h : QOk cs t) : QOk (cs.map fillC) t := by
  refine ⟨by rw [List.length_map]; exact h.len, fun c hc => ?_, ⟨by rw [List.length_map]; exact h.tn.at', h.tn.lo, h.tn.hi, h.tn.up, fun j hj he => ?_⟩⟩
  · obtain ⟨x, hx, rfl⟩ := List.mem_map.1 hc
    exact fill_ok (h.cl x hx)
  · rw [List.length_map] at hj
    rw [cAt_map cs j hj, fill_L] at he
    exact h.tn.em j hj he
end Go.Proofs.Ytclkcpdghpaboaa
