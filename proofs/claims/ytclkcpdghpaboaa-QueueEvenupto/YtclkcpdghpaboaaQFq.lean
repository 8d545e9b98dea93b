/-
  Layer 18 in numbers, for QueueFair: the queue behind the first item, a Push that always has room, a Pop, what was served.
-/
import Derived.Test.YtclkcpdghpaboaaQFp
import Derived.Test.YtclkcpdghpaboaaQB5
namespace Go.Proofs.Ytclkcpdghpaboaa

/-- a class that is kept waiting -/
def apB (l : LI) : Bool := decide (l.ra = 0) && (decide (2 ≤ l.it) && decide (2 ≤ l.by'))
/-- a queue that is kept waiting: two items at most wait of each such class, each at most half of its bytes; nothing waits of the others -/
structure Wq (cs : List CL) : Prop where
  two : ∀ i, i < cs.length → apB (cAt cs i).li = true → (cAt cs i).L.length ≤ 2
  half : ∀ i, i < cs.length → apB (cAt cs i).li = true → ∀ x ∈ (cAt cs i).L, x.2 * 2 ≤ (cAt cs i).li.by'
  em : ∀ i, i < cs.length → apB (cAt cs i).li = false → (cAt cs i).L = []
/-- all that are kept waiting have their two items -/
def Fu (cs : List CL) (k : Nat) : Prop := ∀ i, i < k → i < cs.length → apB (cAt cs i).li = true → (cAt cs i).L.length = 2
theorem apB_iff {l : LI} : apB l = true ↔ l.ra = 0 ∧ 2 ≤ l.it ∧ 2 ≤ l.by' := by simp [apB]
/-- the class i of a list of classes is kept waiting -/
def A2 (l2 : List LI) (i : Nat) : Prop := i < l2.length ∧ apB (l2.getD i lz) = true
def q2 (l2 : List LI) (i : Nat) : Int := (l2.getD i lz).q
theorem li_at {cs : List CL} {l2 : List LI} (h : cs.map CL.li = l2) (i : Nat) : (cAt cs i).li = l2.getD i lz := by
  rw [← h]
  unfold cAt
  simp only [List.getD, List.getElem?_map]
  cases cs[i]? <;> rfl
theorem li_len {cs : List CL} {l2 : List LI} (h : cs.map CL.li = l2) : l2.length = cs.length := by rw [← h, List.length_map]
theorem Wq.kw {cs : List CL} {l2 : List LI} (h : Wq cs) (hl : cs.map CL.li = l2) (hf : ∀ i, i < cs.length → apB (cAt cs i).li = true → (cAt cs i).L ≠ []) : Kw (A2 l2) (q2 l2) cs := by
  have hn := li_len hl
  refine ⟨fun i hi => by rw [← hn]; exact hi.1, fun i _ => by rw [li_at hl]; rfl, fun i hi => by rw [li_at hl]; exact (apB_iff.1 hi.2).1, fun i hi => hf i (by rw [← hn]; exact hi.1) (by rw [li_at hl]; exact hi.2), fun i hi => ?_⟩
  by_cases hil : i < cs.length
  · cases ha : apB (cAt cs i).li with
    | false => exact h.em i hil ha
    | true => exact absurd ⟨by rw [hn]; exact hil, by rw [← li_at hl]; exact ha⟩ hi
  · unfold cAt
    rw [List.getD, List.getElem?_eq_none (by omega)]
    rfl
/-- a Push of a fitting item has room -/
theorem Wq.room {cs : List CL} (h : Wq cs) (ho : ∀ i, i < cs.length → ClOk (cAt cs i)) {i : Nat} (hi : i < cs.length) (ha : apB (cAt cs i).li = true) (h2 : (cAt cs i).L.length < 2) {s : Int} (hs : 1 ≤ s ∧ s ≤ 65535) (hb : s * 2 ≤ (cAt cs i).li.by') : pushE cs (i : Int) s = 0 := by
  unfold pushE
  rw [if_pos (by omega), if_pos hs, if_pos]
  rw [Int.toNat_natCast]
  unfold Go.Proofs.Ytclkcpdghpaboaa.room
  have h3 := (apB_iff.1 ha).2.1
  have h4 : szL (cAt cs i).L * 2 ≤ (cAt cs i).li.by' := by
    have hh := h.half i hi ha
    have h5 := (ho i hi).li.by'
    cases hL : (cAt cs i).L with
    | nil => simp [szL]; omega
    | cons x r =>
      rw [hL] at h2 hh
      cases r with
      | nil =>
        have := hh x (by simp)
        simp [szL]
        omega
      | cons y r => simp at h2; omega
  simp only [Bool.and_eq_true, decide_eq_true_eq]
  constructor <;> omega
theorem push_at {cs : List CL} {i : Nat} {s n : Int} (h : pushE cs (i : Int) s = 0) : pushCs cs (i : Int) s n = cs.set i (joinC (cAt cs i) s n) := by
  unfold pushCs
  rw [if_pos h, Int.toNat_natCast]
theorem Wq.push {cs : List CL} (h : Wq cs) {i : Nat} (hi : i < cs.length) (ha : apB (cAt cs i).li = true) (h2 : (cAt cs i).L.length < 2) {s n : Int} (hb : s * 2 ≤ (cAt cs i).li.by') : Wq (cs.set i (joinC (cAt cs i) s n)) := by
  have hj : (joinC (cAt cs i) s n).li = (cAt cs i).li := rfl
  refine ⟨fun j hjl hja => ?_, fun j hjl hja x hx => ?_, fun j hjl hja => ?_⟩
  all_goals
    rw [List.length_set] at hjl
    by_cases e : j = i
  · subst e
    rw [cAt_set_same hi]
    show ((cAt cs j).L ++ [(n, s)]).length ≤ 2
    rw [List.length_append]
    simp
    omega
  · rw [cAt_set_ne e] at hja ⊢
    exact h.two j hjl hja
  · subst e
    rw [cAt_set_same hi] at hx ⊢
    rcases List.mem_append.1 hx with hx | hx
    · exact h.half j hi ha x hx
    · simp only [List.mem_cons, List.not_mem_nil, or_false] at hx
      rw [hx]
      exact hb
  · rw [cAt_set_ne e] at hja hx ⊢
    exact h.half j hjl hja x hx
  · subst e
    rw [cAt_set_same hi, hj, ha] at hja
    cases hja
  · rw [cAt_set_ne e] at hja ⊢
    exact h.em j hjl hja
theorem Fu.push {cs : List CL} {k i : Nat} (h : Fu cs k) (hk : k ≤ i) (c : CL) : Fu (cs.set i c) k := fun j hj hl ha => by
  rw [List.length_set] at hl
  have e : j ≠ i := by omega
  rw [cAt_set_ne e] at ha ⊢
  exact h j hj hl ha
theorem Fu.next {cs : List CL} {k : Nat} (h : Fu cs k) (h2 : k < cs.length → apB (cAt cs k).li = true → (cAt cs k).L.length = 2) : Fu cs (k + 1) := fun j hj hl ha => by
  by_cases e : j = k
  · subst e; exact h2 hl ha
  · exact h j (by omega) hl ha
/-- what was served and the deficits, behind a Pop: the class at the pointer was served its head -/
theorem Fr.pop {A : Nat → Prop} {q s : Nat → Int} {r : Int} {cs : List CL} {u : TN} (h : Fr A q s r u) (ht : wtB (cAt cs u.at').L.tail = true) (h0 : 0 ≤ hdS (cAt cs u.at').L) : Fr A q (up s u.at' (s u.at' + hdS (cAt cs u.at').L)) r (popD cs u) := by
  have hfg : ∀ i, fg (popD cs u) i = fg u i := fun i => rfl
  refine ⟨fun i hi => ?_, fun i hi => ?_⟩
  · rw [hfg]
    show up s u.at' _ i + up u.de u.at' _ i = _
    by_cases e : i = u.at'
    · subst e
      rw [up_same, up_same, if_pos ht]
      have h1 := h.eq _ hi
      omega
    · rw [up_ne e, up_ne e]
      exact h.eq i hi
  · show up u.de u.at' _ i ≤ _
    by_cases e : i = u.at'
    · subst e
      rw [up_same, if_pos ht]
      have h1 := h.hi _ hi
      omega
    · rw [up_ne e]
      exact h.hi i hi
/-- behind a Pop of a queue that is full: what waits, what was served -/
theorem Wq.pop {cs : List CL} {t : TN} {l2 : List LI} {s : Nat → Int} {r : Int} (h : Wq cs) (hq : QOk cs t) (hl : cs.map CL.li = l2) (hf : Fu cs cs.length) (ha : anyR cs = true) (hfr : Fr (A2 l2) (q2 l2) s r t) :
    Wq (popQ cs t) ∧ ∃ r', Fr (A2 l2) (q2 l2) (up s (fin cs t).at' (s (fin cs t).at' + hdS (cAt cs (fin cs t).at').L)) r' (popT cs t) := by
  have hkw := h.kw hl (fun i hi ha e => by have := hf i hi hi ha; rw [e] at this; simp at this)
  have hrun := run_fin hq ha
  obtain ⟨hqu, hr, hd, hg⟩ := hrun.end' hq
  obtain ⟨r', hfr'⟩ := hfr.run hrun hkw hq r
  obtain ⟨u, hu⟩ : ∃ u, u = fin cs t := ⟨_, rfl⟩
  have hat := hqu.tn.at'
  have hAu := hkw.of hr
  have hap : apB (cAt cs (fin cs t).at').li = true := by rw [li_at hl]; exact hAu.2
  have h2 := hf _ hat hat hap
  have hcl := hqu.c hat
  refine ⟨?_, r', ?_⟩
  · unfold popQ popCs
    rw [if_pos ha]
    have hj : (takeC (cAt cs (fin cs t).at')).li = (cAt cs (fin cs t).at').li := rfl
    refine ⟨fun j hjl hja => ?_, fun j hjl hja x hx => ?_, fun j hjl hja => ?_⟩
    all_goals
      rw [List.length_set] at hjl
      by_cases e : j = (fin cs t).at'
    · rw [e, cAt_set_same hat]
      show (cAt cs (fin cs t).at').L.tail.length ≤ 2
      rw [List.length_tail]
      omega
    · rw [cAt_set_ne e] at hja ⊢
      exact h.two j hjl hja
    · rw [e, cAt_set_same hat] at hx ⊢
      exact h.half _ hat hap x (List.mem_of_mem_tail hx)
    · rw [cAt_set_ne e] at hja hx ⊢
      exact h.half j hjl hja x hx
    · rw [e, cAt_set_same hat, hj, hap] at hja
      cases hja
    · rw [cAt_set_ne e] at hja ⊢
      exact h.em j hjl hja
  · unfold popT
    rw [if_pos ha]
    refine hfr'.pop ?_ hcl.hd.1
    unfold wtB
    rw [List.length_tail]
    simp
    omega
theorem c0_at (ls : List LI) (i : Nat) : (cAt (c0s ls) i).L = [] := by
  unfold cAt c0s
  simp only [List.getD, List.getElem?_map]
  cases ls[i]? <;> rfl
/-- the first item, pushed and popped -/
theorem first_pop {ls : List LI} (h : nwB ls = true) (hp : pushE (c0s ls) 0 1 = 0) (n : Int) :
    anyR (pushCs (c0s ls) 0 1 n) = true ∧ popN (pushCs (c0s ls) 0 1 n) tz = n ∧ popC (pushCs (c0s ls) 0 1 n) tz = 0 ∧ popT (pushCs (c0s ls) 0 1 n) tz = ⟨0, true, fun _ => 0⟩ ∧ (popQ (pushCs (c0s ls) 0 1 n) tz).map CL.li = ls ∧ ∀ i, (cAt (popQ (pushCs (c0s ls) 0 1 n) tz) i).L = [] := by
  simp only [nwB, Bool.and_eq_true, decide_eq_true_eq, List.all_eq_true] at h
  cases ls with
  | nil => simp at h
  | cons l rest =>
    have hok := lmB_ok (h.2 l List.mem_cons_self)
    have hcs : pushCs (c0s (l :: rest)) 0 1 n = ⟨l, [(n, 1)], l.bu⟩ :: c0s rest := by
      unfold pushCs
      rw [if_pos hp]
      rfl
    rw [hcs]
    have h0 : cAt (⟨l, [(n, 1)], l.bu⟩ :: c0s rest) 0 = ⟨l, [(n, 1)], l.bu⟩ := rfl
    have hheld : CL.held ⟨l, [(n, 1)], l.bu⟩ = false := by
      unfold CL.held
      by_cases hr : 0 < l.ra
      · have := (hok.bu hr).1
        have h3 : decide (l.bu < hdS [(n, 1)]) = false := decide_eq_false (by show ¬ l.bu < 1; omega)
        show (decide (0 < l.ra) && (wtB [(n, 1)] && decide (l.bu < hdS [(n, 1)]))) = false
        rw [h3]
        simp
      · simp [hr]
    have hrdy : CL.rdy ⟨l, [(n, 1)], l.bu⟩ = true := by unfold CL.rdy; rw [hheld]; rfl
    have hany : anyR (⟨l, [(n, 1)], l.bu⟩ :: c0s rest) = true := by unfold anyR; simp [hrdy]
    have hgr : gr (⟨l, [(n, 1)], l.bu⟩ :: c0s rest) tz = ⟨0, true, up (fun _ => 0) 0 l.q⟩ := by
      unfold gr
      show (if (CL.rdy (cAt (⟨l, [(n, 1)], l.bu⟩ :: c0s rest) 0) && !false) = true then _ else _) = _
      rw [h0, hrdy, if_pos (by rfl)]
      show TN.mk 0 true (up (fun _ => 0) 0 (0 + l.q)) = _
      rw [Int.zero_add]
    have hsrv : srv (⟨l, [(n, 1)], l.bu⟩ :: c0s rest) tz = true := by
      unfold srv
      rw [hgr]
      show (CL.rdy (cAt (⟨l, [(n, 1)], l.bu⟩ :: c0s rest) 0) && decide (hdS (cAt (⟨l, [(n, 1)], l.bu⟩ :: c0s rest) 0).L ≤ up (fun _ => 0) 0 l.q 0)) = true
      rw [h0, hrdy, up_same]
      have := hok.q.1
      have h3 : decide (hdS [(n, 1)] ≤ l.q) = true := decide_eq_true (by show (1 : Int) ≤ l.q; omega)
      show (true && decide (hdS [(n, 1)] ≤ l.q)) = true
      rw [h3]
      rfl
    have hfin : fin (⟨l, [(n, 1)], l.bu⟩ :: c0s rest) tz = ⟨0, true, up (fun _ => 0) 0 l.q⟩ := by
      rw [← hgr]
      exact (Run.stop tz hsrv).fin
    refine ⟨hany, ?_, ?_, ?_, ?_, ?_⟩
    · unfold popN; rw [if_pos hany, hfin]; rfl
    · unfold popC; rw [if_pos hany, hfin]; rfl
    · unfold popT
      rw [if_pos hany, hfin]
      unfold popD
      show TN.mk 0 true (up (up (fun _ => 0) 0 l.q) 0 (if wtB [] = true then _ else 0)) = _
      rw [if_neg (by decide)]
      congr 1
      funext i
      by_cases e : i = 0
      · subst e; rw [up_same]
      · rw [up_ne e, up_ne e]
    · unfold popQ popCs
      rw [if_pos hany, hfin]
      show ((⟨l, [(n, 1)], l.bu⟩ :: c0s rest : List CL).set 0 (takeC _)).map CL.li = _
      rw [List.set_cons_zero, List.map_cons]
      congr 1
      unfold c0s
      rw [List.map_map]
      exact List.map_id _
    · intro i
      unfold popQ popCs
      rw [if_pos hany, hfin]
      show (cAt ((⟨l, [(n, 1)], l.bu⟩ :: c0s rest : List CL).set 0 (takeC _)) i).L = []
      rw [List.set_cons_zero]
      cases i with
      | zero => rfl
      | succ i => exact c0_at rest i
theorem Fr.first (l2 : List LI) (h : nwB l2 = true) : Fr (A2 l2) (q2 l2) (fun _ => 0) 0 ⟨0, true, fun _ => 0⟩ := by
  refine ⟨fun i _ => ?_, fun i hi => ?_⟩
  · show (0 : Int) + 0 = (0 + fg ⟨0, true, fun _ => 0⟩ i - og i) * q2 l2 i
    have : (0 + fg ⟨0, true, fun _ => 0⟩ i - og i) = 0 := by
      unfold fg og
      by_cases e : i = 0
      · subst e; simp
      · simp [e]
    rw [this, Int.zero_mul]
    rfl
  · show (0 : Int) ≤ 65535 + q2 l2 i
    simp only [nwB, Bool.and_eq_true, decide_eq_true_eq, List.all_eq_true] at h
    have h1 := lmB_ok (h.2 (l2[i]'hi.1) (List.getElem_mem _))
    have h2 := h1.q.1
    unfold q2
    rw [List.getD, List.getElem?_eq_getElem hi.1]
    show (0 : Int) ≤ 65535 + (l2[i]'hi.1).q
    omega
theorem Wq.first {cs : List CL} (h : ∀ i, (cAt cs i).L = []) : Wq cs := ⟨fun i _ _ => by rw [h]; simp, fun i _ _ x hx => by rw [h] at hx; simp at hx, fun i _ _ => h i⟩
end Go.Proofs.Ytclkcpdghpaboaa
