/-
  Layer 20, captures, in numbers: what is read is written as it was; what is written is read as it was.
-/
import Derived.Test.YtpdfepnifjolkaaDC7
import Derived.Test.YtpdfepnifjolkaaDC4
namespace Go.Proofs.Ytpdfepnifjolkaa
open Go.RowKit Go.ChangeShapes Go.WideShapes

theorem frame_wr {l : List Nat} (h : badF l = none) (h256 : ∀ x ∈ l, x < 256) : wrE (frF l) = 0 ∧ hdC (frF l) ++ ((frF l).2.2.2 ++ l.drop (8 + szF l)) = l := by
  have hfit := bad_fit h
  have h5 : l.getD 5 0 ≤ 1 := by
    unfold badF at h
    split at h
    · cases h
    · split at h
      · cases h
      · omega
  have hsz := szF_lt h256
  have hl8 : 8 ≤ l.length := by omega
  have hdl : ((l.drop 8).take (szF l)).length = szF l := by rw [List.length_take, List.length_drop]; omega
  have hn4 := num_four hl8
  have b0 := get256 h256 0
  have b1 := get256 h256 1
  have b2 := get256 h256 2
  have b3 := get256 h256 3
  have b4 := get256 h256 4
  have b6 := get256 h256 6
  have b7 := get256 h256 7
  constructor
  · refine wrE_0 ?_ ?_
    · show ¬ (((num (l.take 4) : Nat) : Int) < 0 ∨ 4294967295 < ((num (l.take 4) : Nat) : Int) ∨ ((l.getD 4 0 : Nat) : Int) < 0 ∨ 255 < ((l.getD 4 0 : Nat) : Int))
      rw [hn4]; omega
    · show ¬ 65535 < ((l.drop 8).take (szF l)).length
      rw [hdl]; omega
  · have e1 : hdC (frF l) = l.take 8 := by
      have e2 : l.take 8 = [l.getD 0 0, l.getD 1 0, l.getD 2 0, l.getD 3 0, l.getD 4 0, l.getD 5 0, l.getD 6 0, l.getD 7 0] := by
        match l, hl8 with
        | a :: b :: c :: d :: e :: f :: x :: y :: r, _ => simp [List.getD]
      rw [e2]
      unfold hdC frF
      simp only
      rw [hdl, hn4]
      unfold szF
      simp only [List.cons.injEq, and_true, Int.toNat_natCast]
      refine ⟨by omega, by omega, by omega, by omega, by omega, ?_, by omega, by omega⟩
      by_cases e : l.getD 5 0 = 1
      · rw [e]; rfl
      · have e0 : l.getD 5 0 = 0 := by omega
        rw [e0]; rfl
    rw [e1]
    show l.take 8 ++ ((l.drop 8).take (szF l) ++ l.drop (8 + szF l)) = l
    rw [← List.drop_drop, List.take_append_drop, List.take_append_drop]
theorem drop256 {bs : List Nat} (h : ∀ x ∈ bs, x < 256) (i : Nat) : ∀ x ∈ bs.drop i, x < 256 := fun x hx => h x (List.mem_of_mem_drop hx)
theorem rd_facts (bs : List Nat) (h256 : ∀ x ∈ bs, x < 256) : ∀ (m i : Nat), bs.length - i ≤ m → ((rdF bs i).2.1 = 0 ∨ (rdF bs i).2.1 = 204) ∧ (rdF bs i).1.length ≤ bs.length - i ∧ (∀ c ∈ (rdF bs i).1, ∀ x ∈ c.2.2.2, x < 256) ∧ ((rdF bs i).2.1 = 0 → (rdF bs i).2.2 = 0 ∧ wrF (rdF bs i).1 = (bs.drop i, 0)) := by
  intro m
  induction m with
  | zero =>
    intro i hm
    rw [rdF_end bs i (by omega)]
    refine ⟨.inl rfl, by simp, by simp, fun _ => ⟨rfl, ?_⟩⟩
    rw [List.drop_eq_nil_of_le (by omega)]; rfl
  | succ m ih =>
    intro i hm
    by_cases hi : i < bs.length
    · cases hb : badF (bs.drop i) with
      | some p =>
        rw [rdF_bad bs i p hi hb]
        exact ⟨.inr rfl, by simp, by simp, fun e => by simp at e⟩
      | none =>
        have hfit := bad_fit hb
        rw [List.length_drop] at hfit
        obtain ⟨i1, i2, i3, i4⟩ := ih (i + (8 + szF (bs.drop i))) (by omega)
        rw [rdF, dif_pos hi, hb]
        simp only
        refine ⟨i1, ?_, ?_, fun e => ?_⟩
        · split
          · rw [List.length_cons]; omega
          · simp
        · split
          · intro c hc
            rcases List.mem_cons.1 hc with rfl | hc
            · intro x hx
              exact h256 x (List.mem_of_mem_drop (List.mem_of_mem_drop (List.mem_of_mem_take hx)))
            · exact i3 c hc
          · simp
        · obtain ⟨j1, j2⟩ := i4 e
          refine ⟨j1, ?_⟩
          rw [if_pos e]
          obtain ⟨f1, f2⟩ := frame_wr hb (drop256 h256 i)
          simp only [wrF, f1, if_true, j2]
          rw [List.drop_drop] at f2
          rw [f2]
    · rw [rdF_end bs i hi]
      refine ⟨.inl rfl, by simp, by simp, fun _ => ⟨rfl, ?_⟩⟩
      rw [List.drop_eq_nil_of_le (by omega)]; rfl
theorem rdA_facts (bs : List Nat) (h256 : ∀ x ∈ bs, x < 256) : ((rdA bs).2.1 = 0 ∨ (rdA bs).2.1 = 204) ∧ (rdA bs).1.length ≤ bs.length ∧ (∀ c ∈ (rdA bs).1, ∀ x ∈ c.2.2.2, x < 256) ∧ ((rdA bs).2.1 = 0 → wrA (rdA bs).1 = (bs, 0)) := by
  unfold rdA
  by_cases h : bs.take mg.length = mg
  · rw [if_pos h]
    obtain ⟨i1, i2, i3, i4⟩ := rd_facts bs h256 bs.length 8 (by omega)
    refine ⟨i1, by omega, i3, fun e => ?_⟩
    obtain ⟨_, j⟩ := i4 e
    unfold wrA
    rw [j, if_pos rfl]
    simp only
    rw [← h]
    congr 1
    exact List.take_append_drop 8 bs
  · rw [if_neg h]
    exact ⟨.inr rfl, by simp, by simp, fun e => by simp at e⟩
/-- the first frame of what was written -/
theorem wr_frame (c : CV) (r : List Nat) (h : wrE c = 0) : badF (hdC c ++ (c.2.2.2 ++ r)) = none ∧ frF (hdC c ++ (c.2.2.2 ++ r)) = c ∧ szF (hdC c ++ (c.2.2.2 ++ r)) = c.2.2.2.length := by
  obtain ⟨tk, pt, ou, d⟩ := c
  have h1 : ¬ (tk < 0 ∨ 4294967295 < tk ∨ pt < 0 ∨ 255 < pt) := by intro e; rw [wrE_1 e] at h; cases h
  have h2 : ¬ 65535 < d.length := by intro e; rw [wrE_2 h1 e] at h; cases h
  obtain ⟨T, rfl⟩ : ∃ x : Nat, tk = (x : Int) := ⟨tk.toNat, by omega⟩
  obtain ⟨P, rfl⟩ : ∃ x : Nat, pt = (x : Int) := ⟨pt.toNat, by omega⟩
  have hsz : szF (hdC ((T : Int), (P : Int), ou, d) ++ (d ++ r)) = d.length := by
    unfold szF hdC
    simp [List.getD]
    omega
  have hlen : (hdC ((T : Int), (P : Int), ou, d) ++ (d ++ r)).length = 8 + (d.length + r.length) := by rw [List.length_append, hdC_len, List.length_append]
  have h5 : (hdC ((T : Int), (P : Int), ou, d) ++ (d ++ r)).getD 5 0 = if ou then 1 else 0 := by simp [hdC, List.getD]
  refine ⟨?_, ?_, hsz⟩
  · unfold badF
    rw [if_neg (by simp only; rw [hlen]; omega), if_neg (by simp only; rw [h5]; split <;> decide), if_neg (by simp only; rw [hlen, hsz]; omega)]
  · unfold frF
    simp only
    rw [hsz, h5]
    have e1 : num ((hdC ((T : Int), (P : Int), ou, d) ++ (d ++ r)).take 4) = T := by
      rw [num_four (by rw [hlen]; omega)]
      simp [hdC, List.getD]
      omega
    have e2 : (hdC ((T : Int), (P : Int), ou, d) ++ (d ++ r)).getD 4 0 = P := by
      simp [hdC, List.getD]; omega
    have e3 : ((hdC ((T : Int), (P : Int), ou, d) ++ (d ++ r)).drop 8).take d.length = d := by
      simp [hdC]
    have e4 : ((if ou then 1 else 0 : Nat) == 1) = ou := by cases ou <;> rfl
    rw [e1, e2, e3, e4]
theorem wr_rd (cs : List CV) : ∀ (ahead : List Nat), (wrF cs).2 = 0 → rdF (ahead ++ (wrF cs).1) ahead.length = (cs, 0, 0) := by
  induction cs with
  | nil => intro ahead _; exact rdF_end _ _ (by simp [wrF])
  | cons c r ih =>
    intro ahead h
    have hc : wrE c = 0 := by
      by_cases e : wrE c = 0
      · exact e
      · rw [wr_bad c r e] at h; exact absurd h e
    have hr : (wrF r).2 = 0 := by
      simp only [wrF, hc, if_true] at h
      by_cases e : (wrF r).2 = 0
      · exact e
      · rw [if_neg e] at h; exact h
    have e1 : (wrF (c :: r)).1 = hdC c ++ (c.2.2.2 ++ (wrF r).1) := by simp only [wrF, hc, if_true, hr]
    obtain ⟨f1, f2, f3⟩ := wr_frame c (wrF r).1 hc
    have hd : (ahead ++ (wrF (c :: r)).1).drop ahead.length = hdC c ++ (c.2.2.2 ++ (wrF r).1) := by rw [e1, List.drop_left]
    have hi : ahead.length < (ahead ++ (wrF (c :: r)).1).length := by rw [e1, List.length_append, List.length_append, hdC_len]; omega
    have h1 := rdF_step [] (ahead ++ (wrF (c :: r)).1) ahead.length hi (by rw [hd]; exact f1)
    rw [app_nil _ (rdF_nil _ _), hd, f2, f3] at h1
    have h2 := ih (ahead ++ (hdC c ++ c.2.2.2)) hr
    have e3 : ahead ++ (hdC c ++ c.2.2.2) ++ (wrF r).1 = ahead ++ (wrF (c :: r)).1 := by rw [e1]; simp
    have e4 : (ahead ++ (hdC c ++ c.2.2.2)).length = ahead.length + (8 + c.2.2.2.length) := by rw [List.length_append, List.length_append, hdC_len]
    rw [e3, e4] at h2
    rw [h1, h2]
    simp [app]
/-- what is written is read as it was -/
theorem wrA_rd (cs : List CV) (h : (wrA cs).2 = 0) : rdA (wrA cs).1 = (cs, 0, 0) := by
  have h0 : (wrF cs).2 = 0 := by
    by_cases e : (wrF cs).2 = 0
    · exact e
    · unfold wrA at h; rw [if_neg e] at h; exact h
  have e1 : (wrA cs).1 = mg ++ (wrF cs).1 := by unfold wrA; rw [if_pos h0]
  rw [e1]
  unfold rdA
  rw [if_pos (by simp)]
  exact wr_rd cs mg h0
theorem wrF_256 (cs : List CV) (h : ∀ c ∈ cs, ∀ x ∈ c.2.2.2, x < 256) : ∀ x ∈ (wrF cs).1, x < 256 := by
  induction cs with
  | nil => simp [wrF]
  | cons c r ih =>
    intro x hx
    simp only [wrF] at hx
    split at hx
    · split at hx
      · simp only [List.mem_append] at hx
        rcases hx with hx | hx | hx
        · exact hdC_256 c x hx
        · exact h c (List.mem_cons_self ..) x hx
        · exact ih (fun e he => h e (List.mem_cons_of_mem _ he)) x hx
      · simp at hx
    · simp at hx
theorem wrA_256 (cs : List CV) (h : ∀ c ∈ cs, ∀ x ∈ c.2.2.2, x < 256) : ∀ x ∈ (wrA cs).1, x < 256 := by
  intro x hx
  unfold wrA at hx
  split at hx
  · rcases List.mem_append.1 hx with hx | hx
    · exact mg256 x hx
    · exact wrF_256 cs h x hx
  · simp at hx
theorem wrF_len (cs : List CV) : (wrF cs).1.length ≤ cs.length * 65543 := by
  induction cs with
  | nil => simp [wrF]
  | cons c r ih =>
    simp only [wrF]
    split
    · rename_i he
      have h1 : ¬ (c.1 < 0 ∨ 4294967295 < c.1 ∨ c.2.1 < 0 ∨ 255 < c.2.1) := by intro e; rw [wrE_1 e] at he; cases he
      have h2 : ¬ 65535 < c.2.2.2.length := by intro e; rw [wrE_2 h1 e] at he; cases he
      split
      · simp only [List.length_append, hdC_len, List.length_cons]; omega
      · simp
    · simp
theorem wrA_len (cs : List CV) : (wrA cs).1.length ≤ 8 + cs.length * 65543 := by
  unfold wrA
  split
  · rw [List.length_append]; have := wrF_len cs; have e : mg.length = 8 := rfl; omega
  · simp
end Go.Proofs.Ytpdfepnifjolkaa
