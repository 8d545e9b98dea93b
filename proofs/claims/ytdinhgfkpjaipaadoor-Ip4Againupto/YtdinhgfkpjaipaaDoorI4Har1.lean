/-
  Bytes held against bytes; what Parse answers, as a value in memory; Canonical.
-/
import Derived.Test.YtdinhgfkpjaipaaDoorI4Ser
namespace Go.Proofs.YtdinhgfkpjaipaaDoor
open Go.RowKit
open I4 (H4)

set_option maxHeartbeats 400000 in
set_option maxRecDepth 100000 in
theorem equal_any (a b : Option Addr) (na nb ca cb : Nat) (l m : List Nat) (w : World) (hna : l.length = na) (hnb : m.length = nb) (hl : Seg .u8 w a (toI l)) (hm : Seg .u8 w b (toI m)) (hl2 : ∀ x ∈ l, x < 256) (hm2 : ∀ x ∈ m, x < 256) :
    Calls Tryd.prog 57 #[.slice a na ca, .slice b nb cb] w fun e w' => e = .returned (.bool (decide (l = m))) ∧ w = w' := by
  have k1 := conv_any w a ca l hl hl2
  have k2 := conv_any w b cb m hm hm2
  rw [hna] at k1
  rw [hnb] at k2
  obtain ⟨s, hs⟩ : ∃ s, s = strOf l := ⟨_, rfl⟩
  obtain ⟨t, ht⟩ : ∃ t, t = strOf m := ⟨_, rfl⟩
  rw [← hs] at k1
  rw [← ht] at k2
  have HD : Hid ((s.toList == t.toList) = decide (l = m)) := by
    show (s.toList == t.toList) = decide (l = m)
    rw [hs, ht, ByteArray.toList_eq, ByteArray.toList_eq]
    by_cases h : l = m
    · subst h; simp
    · have : (strOf l).data.toList ≠ (strOf m).data.toList := fun e => h (strOf_eq l m hl2 hm2 (WideShapes.bytes_inj e))
      rw [decide_eq_false h]
      simpa using this
  clear hs ht hna hnb
  go_enter Tryd.func57, Tryd.ntmps57
  go_wp2
  go_ret
  exact ⟨congrArg (fun b => Ending.returned (.bool b)) HD.out, rfl⟩
set_option maxHeartbeats 400000 in
set_option maxRecDepth 100000 in
theorem alike_any (a b : Option Addr) (na nb ca cb : Nat) (l m : List Nat) (w : World) (hna : l.length = na) (hnb : m.length = nb) (hl : Seg .u8 w a (toI l)) (hm : Seg .u8 w b (toI m)) (hl2 : ∀ x ∈ l, x < 256) (hm2 : ∀ x ∈ m, x < 256) :
    Calls Tryd.prog 24 #[.slice a na ca, .slice b nb cb] w fun e w' => e = .returned (.bool (decide (l = m))) ∧ w = w' := by
  have k1 := conv_any w a ca l hl hl2
  have k2 := conv_any w b cb m hm hm2
  rw [hna] at k1
  rw [hnb] at k2
  obtain ⟨s, hs⟩ : ∃ s, s = strOf l := ⟨_, rfl⟩
  obtain ⟨t, ht⟩ : ∃ t, t = strOf m := ⟨_, rfl⟩
  rw [← hs] at k1
  rw [← ht] at k2
  have HD : Hid ((s.toList == t.toList) = decide (l = m)) := by
    show (s.toList == t.toList) = decide (l = m)
    rw [hs, ht, ByteArray.toList_eq, ByteArray.toList_eq]
    by_cases h : l = m
    · subst h; simp
    · have : (strOf l).data.toList ≠ (strOf m).data.toList := fun e => h (strOf_eq l m hl2 hm2 (WideShapes.bytes_inj e))
      rw [decide_eq_false h]
      simpa using this
  clear hs ht hna hnb
  go_enter Tryd.func24, Tryd.ntmps24
  go_wp2
  go_ret
  exact ⟨congrArg (fun b => Ending.returned (.bool b)) HD.out, rfl⟩
theorem num_any (x : Int) (w : World) : Calls Tryd.prog 19 #[.int .i64 x] w fun e w' => e = .returned (.int .i64 x) ∧ w = w' := by
  go_enter Tryd.func19, Tryd.ntmps19
  go_wp2
  go_ret
  exact ⟨rfl, rfl⟩
/-- an option that was read, as a value in memory -/
def opV (a : Option Addr) (ob : List Nat) (o : I4.Op4) : OpV := ⟨(o.k : Nat), cutA a o.p o.n, o.n, (ob.drop o.p).take o.n⟩
theorem opsC_get (a : Option Addr) (ops : List I4.Op4) (i : Nat) (o : I4.Op4) (h : ops[i]? = some o) : (opsC a ops)[i * 2]? = some (.int .i64 (o.k : Nat)) ∧ (opsC a ops)[i * 2 + 1]? = some (.slice (cutA a o.p o.n) o.n o.n) := by
  induction ops generalizing i with
  | nil => simp at h
  | cons p ops ih =>
    have e : opsC a (p :: ops) = .int .i64 (p.k : Nat) :: .slice (cutA a p.p p.n) p.n p.n :: opsC a ops := by simp [opsC, opC]
    rw [e]
    cases i with
    | zero => simp at h; subst h; exact ⟨rfl, rfl⟩
    | succ i =>
      have := ih i (by simpa using h)
      rw [show (i + 1) * 2 = i * 2 + 1 + 1 by omega, show i * 2 + 1 + 1 + 1 = (i * 2 + 1) + 1 + 1 by omega]
      simpa using this
theorem opts_of_own {w : World} {B : Nat} {la : Option Addr} {K lc : Nat} {a : Option Addr} {ob : List Nat} {ops : List I4.Op4} (ho : w.ownsRow B 43 2 (.slice la K lc) K (opsC a ops)) (hK : ops.length = K) (hs : Seg .u8 w a (toI ob)) (h256 : ∀ x ∈ ob, x < 256) (hin : ∀ o ∈ ops, o.p + o.n ≤ ob.length) (hm : ob.length ≤ 9223372036854775807) : OptsAt w la (ops.map (opV a ob)) := by
  rcases ho.2 with ⟨_, h0⟩ | ⟨g, cap, cur, e, _, hg, _, _, _, ht⟩
  · left
    have : ops = [] := List.eq_nil_of_length_eq_zero (by omega)
    rw [this]; rfl
  · simp only [Value.slice.injEq, true_and] at e
    obtain ⟨rfl, rfl⟩ := e
    refine .inr ⟨g, 0, rfl, (Array.getElem?_eq_some_iff.1 hg).1, fun i o hi => ?_⟩
    rw [List.getElem?_map] at hi
    cases hp : ops[i]? with
    | none => rw [hp] at hi; simp at hi
    | some p =>
      rw [hp] at hi
      simp at hi
      subst hi
      have hpm := List.mem_of_getElem? hp
      have hl := hin p hpm
      have hlen : ((ob.drop p.p).take p.n).length = p.n := by simp; omega
      have hiK : i < K := by have := (List.getElem?_eq_some_iff.1 hp).1; omega
      obtain ⟨c1, c2⟩ := opsC_get a ops i p hp
      have d1 := ho.cellAt (i * 2) (by omega)
      have d2 := ho.cellAt (i * 2 + 1) (by omega)
      rw [c1] at d1
      rw [c2] at d2
      refine ⟨⟨?_, ?_, ?_, ?_⟩, by simpa [opV] using d1, ?_⟩
      · have h1 := hs.cut p.p p.n (by rw [toI_len]; exact hl)
        rw [toI_drop, toI_take] at h1
        exact h1
      · exact fun x hx => h256 x (List.mem_of_mem_drop (List.mem_of_mem_take hx))
      · show ((ob.drop p.p).take p.n).length ≤ p.n; omega
      · show p.n ≤ _; omega
      · show w.cell? ⟨g, 0 + i * 2 + 1, none⟩ = some (.slice (cutA a p.p p.n) ((ob.drop p.p).take p.n).length p.n)
        rw [hlen, Nat.zero_add]
        exact d2
theorem vals_opV (a : Option Addr) (ob : List Nat) (ops : List I4.Op4) : vals (ops.map (opV a ob)) = ops.map (fun o => I4.intO (I4.ov ob o)) := by
  unfold vals
  rw [List.map_map]
  rfl
/-- a datagram that was read -/
structure Read (w : World) (B : Nat) (a : Option Addr) (bs : List Nat) (C : Array Value) : Prop where
  tk : I4.Taken bs
  ex : ∃ la K lc os, C = h4C (I4.pH bs) (.slice la K lc) (.slice (cutA a (I4.hdL bs) (I4.tlL bs - I4.hdL bs)) (I4.tlL bs - I4.hdL bs) (I4.tlL bs - I4.hdL bs)) ∧ H4Ok w (I4.pH bs) la K lc os (cutA a (I4.hdL bs) (I4.tlL bs - I4.hdL bs)) (I4.tlL bs - I4.hdL bs) (I4.tlL bs - I4.hdL bs) ∧ w.ownsRow B 43 2 (.slice la K lc) K (opsC (optA a) (I4.opsB bs))
theorem read_of {w w' : World} {a : Option Addr} {bs : List Nat} {C : Array Value} (hs : Seg .u8 w' a (toI bs)) (h256 : ∀ x ∈ bs, x < 256) (tk : I4.Taken bs) (vo : Value) (hC : C = h4C (I4.pH bs) vo (.slice (cutA a (I4.hdL bs) (I4.tlL bs - I4.hdL bs)) (I4.tlL bs - I4.hdL bs) (I4.tlL bs - I4.hdL bs)))
    (ho : w'.ownsRow w.heap.size 43 2 vo (I4.opsB bs).length (opsC (optA a) (I4.opsB bs))) : Read w' w.heap.size a bs C := by
  refine ⟨tk, ?_⟩
  obtain ⟨la, lc, rfl⟩ := owns_shape ho
  have h1 := tk.hd
  have h2 := tk.hd2
  have h3 := tk.tl
  have h4 := tk.le
  have g := I4.getD_lt bs h256
  obtain ⟨si, _⟩ := I4.scan_in (I4.optB bs) 0 (I4.opsB bs) tk.opt (Nat.zero_le _) (I4.optB_256 h256)
  have hob : Seg .u8 w' (optA a) (toI (I4.optB bs)) := by
    have := hs.part 20 (I4.hdL bs - 20) (by rw [toI_len]; omega)
    rw [toI_drop, toI_take] at this
    exact this
  have hol : (I4.optB bs).length ≤ 40 := by have := I4.hdL_le bs; rw [tk.opt_len]; omega
  refine ⟨la, _, lc, (I4.opsB bs).map (opV (optA a) (I4.optB bs)), hC, ⟨?_, ?_, by simp, opts_of_own ho rfl hob (I4.optB_256 h256) (fun o ho => by have := si o ho; omega) (by omega), ?_, ?_, tk.data_len, ?_, ?_, Nat.le_refl _, by omega, by omega⟩, ho⟩
  · intro i _; show I4.ipx bs 12 i < 256; unfold I4.ipx; split; exact g _; omega
  · intro i _; show I4.ipx bs 16 i < 256; unfold I4.ipx; split; exact g _; omega
  · rw [vals_opV]; rfl
  · have hle : (I4.opsB bs).length * 2 ≤ 40 := by
      obtain ⟨_, h⟩ := I4.scan_in (I4.optB bs) 0 (I4.opsB bs) tk.opt (Nat.zero_le _) (I4.optB_256 h256)
      have key : ∀ l : List I4.OV, l.length * 2 ≤ (I4.flatO l).length := by
        intro l
        induction l with
        | nil => simp [I4.flatO]
        | cons o l ih => rw [I4.flatO_cons, List.length_cons]; omega
      have := key ((I4.opsB bs).map (I4.ov (I4.optB bs)))
      rw [List.length_map] at this
      omega
    omega
  · have := hs.cut (I4.hdL bs) (I4.tlL bs - I4.hdL bs) (by rw [toI_len]; omega)
    rw [toI_drop, toI_take] at this
    exact this
  · exact fun x hx => h256 x (List.mem_of_mem_drop (List.mem_of_mem_take hx))
theorem Read.old {w w' : World} {B : Nat} {a : Option Addr} {bs : List Nat} {C : Array Value} (h : Read w B a bs C) (hb : Below w.heap.size w w') : Read w' B a bs C := by
  obtain ⟨la, K, lc, os, h1, h2, h3⟩ := h.ex
  exact ⟨h.tk, la, K, lc, os, h1, h2.old hb, (Ch.ofBelow (S := fun _ => False) hb).owns h3 (fun _ _ => id)⟩
/-- Parse, told by the numbers -/
theorem parse_two (a : Option Addr) (cap n : Nat) (bs : List Nat) (w : World) (hn : bs.length = n) (hw : Wid w) (hb : Seg .u8 w a (toI bs)) (h256 : ∀ x ∈ bs, x < 256) (h2 : n ≤ cap) (h3 : cap ≤ 9223372036854775807) :
    Calls Tryd.prog 20 #[.slice a n cap] w fun e w' => ∃ C, e = .returned (.tuple #[.agg C, .int .i64 (I4.pE bs : Nat)]) ∧ Below w.heap.size w w' ∧ ((I4.pE bs ≠ 0 ∧ C = h4C h4z nilS nilS) ∨ (I4.pE bs = 0 ∧ Read w' w.heap.size a bs C)) := by
  refine (parse_any a cap n bs w hn hw hb h256 h2 h3).mono ?_
  rintro e w' ⟨C, er, rfl, hbel, hr⟩
  rcases hr with ⟨rfl, h0, rfl⟩ | ⟨rfl, tk, vo, hC, ho⟩
  · exact ⟨_, rfl, hbel, .inl ⟨h0, rfl⟩⟩
  · have e0 := (I4.pE_zero bs).2 tk
    refine ⟨C, by rw [e0]; rfl, hbel, .inr ⟨e0, read_of (hb.old hbel) h256 tk vo hC ho⟩⟩
end Go.Proofs.YtdinhgfkpjaipaaDoor
