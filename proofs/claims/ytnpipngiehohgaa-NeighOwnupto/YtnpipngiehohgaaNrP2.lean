/-
  Layer 15: a cache's entries and the reference's list of them: one gone; a tick; which gives way.
-/
import Derived.Test.YtnpipngiehohgaaNrP
namespace Go.Proofs.Ytnpipngiehohgaa
open Go.RowKit Go.Maps

/-- one entry gone -/
theorem Rep.del {E : List EV} {N : List EN} (h : Rep E N) {k : KV} {i : Nat} {a : EN} (hi : N[i]? = .some a) (hk : eqP a.k k = true) : Rep (delE E k) (N.take i ++ N.drop (i + 1)) := by
  obtain ⟨hlt, ha⟩ := List.getElem?_eq_some_iff.1 hi
  have hno : ∀ j (hj : j < N.length), j ≠ i → eqP N[j].k k = false := fun j hj hij => by
    rw [Bool.eq_false_iff]
    intro he
    have h3 : eqP N[j].k a.k = true := eqP_trans he (by rw [eqP_comm]; exact hk)
    rcases Nat.lt_or_gt_of_ne hij with hl | hl
    · have h4 := List.pairwise_iff_getElem.1 h.2 j i hj hlt hl
      rw [ha] at h4
      rw [lt3_ne h4] at h3
      cases h3
    · have h4 := List.pairwise_iff_getElem.1 h.2 i j hlt hj hl
      rw [ha] at h4
      have h5 := lt3_ne h4
      rw [eqP_comm, h3] at h5
      cases h5
  have e1 : N.filter (fun b => !(eqP b.k k)) = N.take i ++ N.drop (i + 1) := by
    have e2 : N = N.take i ++ (a :: N.drop (i + 1)) := by rw [← ha, ← List.drop_eq_getElem_cons hlt, List.take_append_drop]
    have f1 : (N.take i).filter (fun b => !(eqP b.k k)) = N.take i := by
      rw [List.filter_eq_self]
      intro b hb
      obtain ⟨j, hj, rfl⟩ := List.getElem_of_mem hb
      have hj' : j < i := by rw [List.length_take] at hj; omega
      rw [List.getElem_take, hno j (by omega) (by omega)]
      rfl
    have f2 : (N.drop (i + 1)).filter (fun b => !(eqP b.k k)) = N.drop (i + 1) := by
      rw [List.filter_eq_self]
      intro b hb
      obtain ⟨j, hj, rfl⟩ := List.getElem_of_mem hb
      rw [List.length_drop] at hj
      rw [List.getElem_drop, hno (i + 1 + j) (by omega) (by omega)]
      rfl
    have e3 := congrArg (List.filter (fun b : EN => !(eqP b.k k))) e2
    rw [List.filter_append, List.filter_cons_of_neg (by rw [hk]; decide), f1, f2] at e3
    exact e3
  refine ⟨?_, ?_⟩
  · rw [← e1]
    have e4 : (delE E k).map (fun e => e.n) = (E.map (fun e => e.n)).filter (fun b => !(eqP b.k k)) := by
      unfold delE
      rw [List.filter_map]
      rfl
    rw [e4]
    exact h.1.filter _
  · rw [← e1]
    exact h.2.sublist (List.filter_sublist)
/-- an entry behind a tick, in numbers -/
def tickN (c : CF) (n : EN) : Option EN := if dueB c n then (if (oldN c n).tr < c.tr then some { oldN c n with ag := 0, tr := (oldN c n).tr + 1 } else none) else some (oldN c n)
theorem tickE_N (c : CF) (e : EV) : (tickE c e).map (fun y => y.n) = tickN c e.n := by
  unfold tickE tickN tkE ag1
  by_cases h : dueB c e.n = true
  · rw [if_pos h, if_pos h]
    split <;> rfl
  · rw [if_neg h, if_neg h]
    rfl
theorem tickN_k {c : CF} {n y : EN} (h : tickN c n = some y) : y.k = n.k := by
  unfold tickN at h
  split at h
  · split at h
    · cases h; exact oldN_k c n
    · cases h
  · cases h; exact oldN_k c n
theorem Rep.tick {E : List EV} {N : List EN} (c : CF) (h : Rep E N) : Rep (E.filterMap (tickE c)) (N.filterMap (tickN c)) := by
  refine ⟨?_, ?_⟩
  · have e1 : (E.filterMap (tickE c)).map (fun e => e.n) = (E.map (fun e => e.n)).filterMap (tickN c) := by
      rw [List.map_filterMap, List.filterMap_map]
      congr 1
      funext e
      exact tickE_N c e
    rw [e1]
    exact h.1.filterMap _
  · rw [List.pairwise_filterMap]
    refine h.2.imp ?_
    intro a b hab y hy z hz
    rw [tickN_k hy, tickN_k hz]
    exact hab
end Go.Proofs.Ytnpipngiehohgaa
