/-
  What a hop leaves, in numbers. No program here.
-/
import Derived.Test.YtdinhgfkpjaipaaDoorI4Spec
namespace Go.Proofs.YtdinhgfkpjaipaaDoor.I4

def hopF (b : List Nat) : Nat := S.fix1 (256 * b.getD 10 0 + b.getD 11 0) (256 * b.getD 8 0 + b.getD 9 0) (256 * (b.getD 8 0 - 1) + b.getD 9 0)
def hop (b : List Nat) : List Nat := S.putW (b.set 8 (b.getD 8 0 - 1)) 10 (hopF b)
theorem hop_len (b : List Nat) : (hop b).length = b.length := by simp [hop, S.putW_len]
theorem hopF_le (b : List Nat) : hopF b ≤ 65535 := S.fix1_le _ _ _
theorem hop_256 (b : List Nat) (h : ∀ x ∈ b, x < 256) : ∀ x ∈ hop b, x < 256 := by
  refine S.putW_lt _ _ _ (by have := hopF_le b; omega) (fun x hx => ?_)
  rcases List.mem_or_eq_of_mem_set hx with hx | rfl
  · exact h x hx
  · have := getD_lt b h 8; omega
theorem hop_get (b : List Nat) (i : Nat) (h8 : i ≠ 8) (h10 : i ≠ 10) (h11 : i ≠ 11) : (hop b).getD i 0 = b.getD i 0 := by
  simp only [hop, S.putW, List.getD, List.getElem?_set]
  rw [if_neg (by omega), if_neg (by omega), if_neg (by omega)]
theorem hop_get8 (b : List Nat) (h : 8 < b.length) : (hop b).getD 8 0 = b.getD 8 0 - 1 := by
  simp [hop, S.putW, List.getD, h]
theorem hop_drop (b : List Nat) (n : Nat) (h : 12 ≤ n) : (hop b).drop n = b.drop n := by
  simp only [hop, S.putW]
  rw [List.drop_set_of_lt (by omega), List.drop_set_of_lt (by omega), List.drop_set_of_lt (by omega)]
theorem hopF_take (b : List Nat) (n : Nat) (h : 12 ≤ n) : hopF (b.take n) = hopF b := by
  simp only [hopF, getD_take b n 8 (by omega), getD_take b n 9 (by omega), getD_take b n 10 (by omega), getD_take b n 11 (by omega)]
theorem hop_take (b : List Nat) (n : Nat) (h : 12 ≤ n) : (hop b).take n = hop (b.take n) := by
  simp only [hop, S.putW, hopF_take b n h, List.take_set, getD_take b n 8 (by omega)]
theorem getElem_getD (l : List Nat) (i : Nat) (h : i < l.length) : l[i] = l.getD i 0 := by simp [List.getD, h]
theorem hop_wv (t : List Nat) (h : 12 ≤ t.length) (h8 : 1 ≤ t.getD 8 0) : S.wv false (hop t) + 256 + (256 * t.getD 10 0 + t.getD 11 0) = S.wv false t + hopF t := by
  have h1 := S.wv_set false t 8 (t.getD 8 0 - 1) (by omega)
  have h2 := S.wv_putW (t.set 8 (t.getD 8 0 - 1)) 10 (hopF t) (by simp; omega) (by omega)
  rw [S.wt_even 8 (by omega), getElem_getD t 8 (by omega)] at h1
  have h3 : S.wordAt (t.set 8 (t.getD 8 0 - 1)) 10 = 256 * t.getD 10 0 + t.getD 11 0 := by
    simp [S.wordAt, List.getD]
  rw [h3] at h2
  unfold hop
  omega
theorem hop_good (t : List Nat) (h : 12 ≤ t.length) (h8 : 1 ≤ t.getD 8 0) (h256 : ∀ x ∈ t, x < 256) (h0 : t.getD 0 0 ≠ 0) (g : S.fold (S.wv false t) = 65535) : S.fold (S.wv false (hop t)) = 65535 := by
  have hv := hop_wv t h h8
  rw [S.fold_full] at g ⊢
  have g8 := getD_lt t h256 8
  have g9 := getD_lt t h256 9
  have g10 := getD_lt t h256 10
  have g11 := getD_lt t h256 11
  refine ⟨fun e => ?_, ?_⟩
  · have hlt : 0 < (hop t).length := by rw [hop_len]; omega
    have := S.wv_zero false (hop t) e ((hop t)[0]) (List.getElem_mem hlt)
    rw [getElem_getD, hop_get t 0 (by omega) (by omega) (by omega)] at this
    exact h0 this
  · have hf : hopF t = 65535 - S.fold (65535 - (256 * t.getD 10 0 + t.getD 11 0) + (65535 - (256 * t.getD 8 0 + t.getD 9 0)) + (256 * (t.getD 8 0 - 1) + t.getD 9 0)) := rfl
    have m := S.fold_mod (65535 - (256 * t.getD 10 0 + t.getD 11 0) + (65535 - (256 * t.getD 8 0 + t.getD 9 0)) + (256 * (t.getD 8 0 - 1) + t.getD 9 0))
    have l := S.fold_le (65535 - (256 * t.getD 10 0 + t.getD 11 0) + (65535 - (256 * t.getD 8 0 + t.getD 9 0)) + (256 * (t.getD 8 0 - 1) + t.getD 9 0))
    generalize S.fold _ = F at hf m l
    omega
section
variable {b : List Nat} (t : Taken b) (h8 : 2 ≤ b.getD 8 0) (h256 : ∀ x ∈ b, x < 256)
include t
omit t in
theorem hop_hdL : hdL (hop b) = hdL b := by unfold hdL; rw [hop_get _ 0 (by omega) (by omega) (by omega)]
omit t in
theorem hop_tlL : tlL (hop b) = tlL b := by unfold tlL; rw [hop_get _ 2 (by omega) (by omega) (by omega), hop_get _ 3 (by omega) (by omega) (by omega)]
omit t in
theorem hop_optB : optB (hop b) = optB b := by unfold optB; rw [hop_hdL, hop_drop _ _ (by omega)]
theorem hop_dataB : dataB (hop b) = dataB b := by have := t.hd; unfold dataB; rw [hop_hdL, hop_tlL, hop_drop _ _ (by omega)]
omit t in
theorem hop_ipx (a : Nat) (ha : 12 ≤ a) : ipx (hop b) a = ipx b a := by
  funext i
  unfold ipx
  rw [hop_get _ _ (by omega) (by omega) (by omega)]
include h8 in
theorem hop_eq : Eqv (pH (hop b)) { pH b with ttl := (pH b).ttl - 1 } := by
  have hl : 20 ≤ b.length := by have := t.hd; have := t.hd2; have := t.tl; omega
  have a : ∀ i, i ≠ 8 → i ≠ 10 → i ≠ 11 → (hop b).getD i 0 = b.getD i 0 := hop_get b
  refine ⟨?_, ?_, ?_, ?_, ?_, ?_, ?_, rfl, ?_, rfl, ?_, ?_, hop_dataB t⟩
  · show (((hop b).getD 1 0 : Nat) : Int) = ((b.getD 1 0 : Nat) : Int); rw [a 1 (by omega) (by omega) (by omega)]
  · show (((hop b).getD 4 0 * 256 + (hop b).getD 5 0 : Nat) : Int) = ((b.getD 4 0 * 256 + b.getD 5 0 : Nat) : Int); rw [a 4 (by omega) (by omega) (by omega), a 5 (by omega) (by omega) (by omega)]
  · show decide ((hop b).getD 6 0 / 64 % 2 = 1) = decide (b.getD 6 0 / 64 % 2 = 1); rw [a 6 (by omega) (by omega) (by omega)]
  · show decide ((hop b).getD 6 0 / 32 % 2 = 1) = decide (b.getD 6 0 / 32 % 2 = 1); rw [a 6 (by omega) (by omega) (by omega)]
  · show ((((hop b).getD 6 0 % 32 * 256 + (hop b).getD 7 0) * 8 : Nat) : Int) = (((b.getD 6 0 % 32 * 256 + b.getD 7 0) * 8 : Nat) : Int); rw [a 6 (by omega) (by omega) (by omega), a 7 (by omega) (by omega) (by omega)]
  · show (((hop b).getD 8 0 : Nat) : Int) = ((b.getD 8 0 : Nat) : Int) - 1; rw [hop_get8 b (by omega)]; omega
  · show (((hop b).getD 9 0 : Nat) : Int) = ((b.getD 9 0 : Nat) : Int); rw [a 9 (by omega) (by omega) (by omega)]
  · intro i _; show ipx (hop b) 12 i = ipx b 12 i; rw [hop_ipx 12 (by omega)]
  · intro i _; show ipx (hop b) 16 i = ipx b 16 i; rw [hop_ipx 16 (by omega)]
  · show (opsB (hop b)).map (fun o => intO (ov (optB (hop b)) o)) = (opsB b).map (fun o => intO (ov (optB b) o))
    unfold opsB; rw [hop_optB]
include h8 h256 in
theorem hop_taken : Taken (hop b) := by
  have e := hop_eq t h8
  have hl : 20 ≤ b.length := by have := t.hd; have := t.hd2; have := t.tl; omega
  have hd := t.hd
  refine ⟨by rw [hop_len]; exact t.le, ?_, by rw [hop_hdL]; exact hd, by rw [hop_hdL, hop_tlL]; exact t.hd2, by rw [hop_tlL, hop_len]; exact t.tl, ?_, ?_, ?_⟩
  · rw [hop_get _ 0 (by omega) (by omega) (by omega)]; exact t.ver
  · rw [hop_hdL, hop_take _ _ (by omega)]
    have h1 := t.hd2
    have h2 := t.tl
    have h3 := t.ver
    refine hop_good _ (by simp; omega) (by rw [getD_take _ _ _ (by omega)]; omega) (fun x hx => h256 x (List.mem_of_mem_take hx)) (by rw [getD_take _ _ _ (by omega)]; omega) t.good
  · unfold opsB; rw [hop_optB]; exact t.opt
  · rw [e.mf, e.off, hop_hdL, hop_tlL]; exact t.frag
end
/-- a hop of what is written is what is written with a hop less -/
theorem hop_ser (h : H4) (m : May h) (h2 : 2 ≤ h.ttl) : hop (ser h) = ser { h with ttl := h.ttl - 1 } := by
  have hb := hd_bounds h
  obtain ⟨T, hT⟩ : ∃ T : Nat, h.ttl = (T : Int) := ⟨h.ttl.toNat, by omega⟩
  obtain ⟨R, hR⟩ : ∃ R : Nat, h.proto = (R : Int) := ⟨h.proto.toNat, by have := m.proto; omega⟩
  have hT2 := m.ttl
  have hR2 := m.proto
  obtain ⟨o, ho⟩ : ∃ o, o = putO h.os := ⟨_, rfl⟩
  have hs : serSum h ≤ 65535 := by unfold serSum; omega
  have e1 : hlist { h with ttl := h.ttl - 1 } (serHd h) (serTl h) 0 = (hlist h (serHd h) (serTl h) 0).set 8 (T - 1) := by
    simp [hlist, wordOf, hT]
  have v1 := S.wv_set false (hlist h (serHd h) (serTl h) 0) 8 (T - 1) (by rw [hlist_len]; omega)
  rw [S.wt_even 8 (by omega)] at v1
  have e8 : (hlist h (serHd h) (serTl h) 0)[8]'(by rw [hlist_len]; omega) = T := by simp [hlist, hT]
  rw [e8] at v1
  have hz : 16384 ≤ S.wv false (hlist h (serHd h) (serTl h) 0) := by simp only [hlist, S.wv]; omega
  have g8 : (ser h).getD 8 0 = T := by rw [ser_at h 8 (by omega)]; simp [hlist, hT]
  have g9 : (ser h).getD 9 0 = R := by rw [ser_at h 9 (by omega)]; simp [hlist, hR]
  have g10 : 256 * (ser h).getD 10 0 + (ser h).getD 11 0 = serSum h := by
    rw [ser_at h 10 (by omega), ser_at h 11 (by omega)]; simp [hlist]; omega
  have hf : hopF (ser h) = serSum { h with ttl := h.ttl - 1 } := by
    have q1 : serHd { h with ttl := h.ttl - 1 } = serHd h := rfl
    have q2 : serTl { h with ttl := h.ttl - 1 } = serTl h := rfl
    have q3 : serSum { h with ttl := h.ttl - 1 } = 65535 - S.fold (S.wv false (hlist { h with ttl := h.ttl - 1 } (serHd h) (serTl h) 0 ++ putO h.os)) := by
      unfold serSum; rw [q1, q2]
    rw [q3, hopF, S.fix1, g8, g9, g10]
    rw [e1, wv_app_even _ _ (by rw [List.length_set, hlist_len])]
    refine congrArg (fun x => 65535 - x) ?_
    have hw : serSum h = 65535 - S.fold (S.wv false (hlist h (serHd h) (serTl h) 0) + S.wv false (putO h.os)) := by
      unfold serSum; rw [wv_app_even _ _ (by rw [hlist_len])]
    have l := S.fold_le (S.wv false (hlist h (serHd h) (serTl h) 0) + S.wv false (putO h.os))
    have md := S.fold_mod (S.wv false (hlist h (serHd h) (serTl h) 0) + S.wv false (putO h.os))
    generalize S.fold (S.wv false (hlist h (serHd h) (serTl h) 0) + S.wv false (putO h.os)) = F at hw l md
    generalize S.wv false (putO h.os) = W at *
    generalize S.wv false ((hlist h (serHd h) (serTl h) 0).set 8 (T - 1)) = V' at *
    generalize S.wv false (hlist h (serHd h) (serTl h) 0) = V at *
    refine S.fold_eq _ _ ?_ ?_ <;> omega
  unfold hop
  rw [hf, g8]
  obtain ⟨s', hs'⟩ : ∃ s', s' = serSum { h with ttl := h.ttl - 1 } := ⟨_, rfl⟩
  rw [← hs']
  unfold ser
  rw [← hs']
  show S.putW _ 10 s' = hlist { h with ttl := h.ttl - 1 } (serHd h) (serTl h) s' ++ (putO h.os ++ h.data)
  simp [hlist, S.putW, wordOf, hT]
theorem hop_canon {b : List Nat} (t : Taken b) (h8 : 2 ≤ b.getD 8 0) (h256 : ∀ x ∈ b, x < 256) (c : ser (pH b) = b) : ser (pH (hop b)) = hop b := by
  rw [ser_eqv (hop_eq t h8), ← hop_ser (pH b) (t.may h256).1 (by show (2 : Int) ≤ ((b.getD 8 0 : Nat) : Int); omega), c]
end Go.Proofs.YtdinhgfkpjaipaaDoor.I4
