/-
  Bytes with three marks behind them, whether they still stand; appends to full windows; bytes turned over.
-/
import Derived.Test.YtmeieggnfmhnmaaDoorL9Bit
import Derived.Deep.Onto
namespace Go.Proofs.YtmeieggnfmhnmaaDoor
open Go.RowKit
open L4 (U9 T9)

theorem owns_at {w : World} {base : Nat} {e : TypeId} {g : Option Addr} {n c : Nat} {k : IntKind} {zs : List Int} (h : w.ownsRow base e 1 (.slice g n c) n (zs.map (Value.int k))) : Seg k w g zs ∧ n ≤ c ∧ c ≤ 9223372036854775807 := by
  obtain ⟨a, c', e1, hs, _, h1, h2⟩ := owns_seg h
  simp only [Value.slice.injEq, true_and] at e1
  rw [e1.1, e1.2]
  exact ⟨hs, h1, by unfold maxLen at h2; exact h2⟩
theorem owns_below {w w' : World} {base : Nat} {e : TypeId} {s : Nat} {v : Value} {n : Nat} {xs : List Value} (h : w.ownsRow base e s v n xs) (b : Below w.heap.size w w') : w'.ownsRow base e s v n xs := (Ch.ofBelow (S := fun _ => False) b).owns h (fun _ _ => id)
theorem add_blk (x : Addr) (i : Nat) : (x.add i).block = x.block := by
  unfold Addr.add
  split <;> rfl
theorem cutA_blk {a : Option Addr} {i n : Nat} {z : Addr} (h : cutA a i n = some z) : ∃ x, a = some x ∧ z.block = x.block := by
  unfold cutA at h
  split at h
  · exact ⟨z, h, rfl⟩
  · cases a with
    | none => simp at h
    | some x =>
      simp only [Option.map_some, Option.some.injEq] at h
      exact ⟨x, rfl, by rw [← h, add_blk]⟩
theorem seg_newz (w : World) (zs : List Int) (t : TypeId) : Seg .u8 (w.alloc (.cells (zs.map (Value.int .u8)).toArray t)) (some ⟨w.heap.size, 0, none⟩) zs := by
  refine .inr ⟨w.heap.size, 0, rfl, fun i hi => ?_⟩
  rw [World.cell?_alloc_at _ _ _ _ rfl]
  simp [hi, List.getD]
theorem owns_some {w : World} {B : Nat} {e : TypeId} {s m : Nat} {v : Value} {xs : List Value} (h : w.ownsRow B e s v m xs) (hm : 0 < m) : ∃ g c, v = .slice (some ⟨g, 0, none⟩) m c := by
  rcases h.2 with ⟨_, h0⟩ | ⟨g, cap, cur, e1, _⟩
  · omega
  · exact ⟨g, cap, e1⟩
set_option maxHeartbeats 800000 in
set_option maxRecDepth 100000 in
theorem wide_any (a : Option Addr) (n cap : Nat) (l : List Nat) (w : World) (hn : l.length = n) (hs : Seg .u8 w a (toI l)) (hm : n ≤ 1048576) :
    Calls Tryd.prog 23 #[.slice a n cap] w fun e w' => ∃ g c, e = .returned (.slice (some ⟨g, 0, none⟩) (n + 3) c) ∧ w'.ownsRow w.heap.size 5 1 (.slice (some ⟨g, 0, none⟩) (n + 3) c) (n + 3) ((toI (l ++ [91, 92, 93])).map (Value.int .u8)) ∧ Below w.heap.size w w' := by
  obtain ⟨i0, hi, hz0, hz1, hz2⟩ := info_parts Tryd.infoByte
  have QC : Hid _ := copied_any a n cap l w hn hs (by omega)
  clear hn hs
  go_enter Tryd.func23, Tryd.ntmps23
  go_wp2_with fail
  refine Calls.mono QC.out ?_
  rintro e w1 ⟨v1, rfl, ho1, hb1⟩
  have HO1 : Hid (w1.ownsRow w.heap.size 5 1 v1 n ((toI l).map (Value.int .u8))) := ho1
  have hsz : w.heap.size ≤ w1.heap.size := hb1.size
  have HB1 : Hid (Below w.heap.size w w1) := hb1
  clear ho1 hb1 QC
  go_wp2_with (first | (at_builtin; refine append_split_seg rfl (.tmp 6) (.tmp 7) 25 rfl w.heap.size 5 i0 (.int .u8 0) 1 Tryd.underlying25 hi hz0 hz1 hz2 rfl v1 n _ rfl (HO1.out.alloc _) .u8 (some ⟨w1.heap.size, 0, none⟩) 3 3 [91, 92, 93] rfl rfl (seg_newz w1 [91, 92, 93] _) (by unfold maxLen; omega) (by omega) (by simp; omega) ?_))
  intro v' w' ho hq hg
  have bA : Below w.heap.size w (w1.alloc (.cells #[.int .u8 91, .int .u8 92, .int .u8 93] 5)) := HB1.out.alloc HB1.out.size _
  have hb : Below w.heap.size w w' := bA.grown hg (by simp; omega) (fun q hq => (HO1.out.lt q hq).1)
  obtain ⟨g, c, rfl⟩ := owns_some ho (by omega)
  have HO : Hid (w'.ownsRow w.heap.size 5 1 (.slice (some ⟨g, 0, none⟩) (n + 3) c) (n + 3) ((toI (l ++ [91, 92, 93])).map (Value.int .u8))) := by
    have e : (toI (l ++ [91, 92, 93])).map (Value.int .u8) = (toI l).map (Value.int .u8) ++ ([91, 92, 93] : List Int).map (Value.int .u8) := by simp [toI]
    rw [e]
    exact ho
  clear ho hq hg bA
  go_wp2
  go_ret
  exact ⟨g, c, rfl, HO.out, hb⟩
set_option maxHeartbeats 1600000 in
set_option maxRecDepth 100000 in
theorem kept_any (g o : Nat) (b : Option Addr) (n c cb : Nat) (l : List Nat) (w : World) (hn : l.length = n) (hs : Seg .u8 w (some ⟨g, o, none⟩) (toI (l ++ [91, 92, 93]))) (hb : Seg .u8 w b (toI l)) (h256 : ∀ x ∈ l, x < 256) (hc : n + 3 ≤ c) (hm : n ≤ 1048576) :
    Calls Tryd.prog 25 #[.slice (some ⟨g, o, none⟩) (n + 3) c, .slice b n cb] w fun e w' => e = .returned (.bool true) ∧ w = w' := by
  have hl : (l ++ [91, 92, 93]).length = n + 3 := by simp; omega
  obtain ⟨g', o', e1, hcs⟩ := seg_at hs n (by omega)
  have e2 := Option.some.inj e1
  simp only [Addr.mk.injEq, and_true] at e2
  obtain ⟨rfl, rfl⟩ := e2
  have g0 : (l ++ [91, 92, 93]).getD n 0 = 91 := by subst hn; simp [List.getD]
  have g1 : (l ++ [91, 92, 93]).getD (n + 1) 0 = 92 := by subst hn; simp [List.getD]
  have g2 : (l ++ [91, 92, 93]).getD (n + 2) 0 = 93 := by subst hn; simp [List.getD]
  have c0 := hcs n (by omega)
  have c1 := hcs (n + 1) (by omega)
  have c2 := hcs (n + 2) (by omega)
  rw [g0] at c0
  rw [g1] at c1
  rw [g2] at c2
  have QA : Hid _ := alike_any (some ⟨g, o, none⟩) b n n c cb l l w hn hn (by have := hs.part0 n (by rw [toI_len]; omega); rw [toI_take, List.take_append_of_le_length (by omega), List.take_of_length_le (by omega)] at this; exact this) hb h256 h256
  rw [decide_eq_true rfl] at QA
  have k0 : (0 : Int) ≤ (n : Int) := by omega
  have k1 : (n : Int) ≤ (c : Int) := by omega
  have k2 : ((n : Int)).toNat = n := by omega
  have w3 : IntKind.i64.wrap ((n : Int) + 3) = (n : Int) + 3 := by rw [IntKind.wrap_i64]; omega
  have w1 : IntKind.i64.wrap ((n : Int) + 1) = (n : Int) + 1 := by rw [IntKind.wrap_i64]; omega
  have w2 : IntKind.i64.wrap ((n : Int) + 2) = (n : Int) + 2 := by rw [IntKind.wrap_i64]; omega
  have j0 : (n : Int) < ((n + 3 : Nat) : Int) := by omega
  have j1 : (n : Int) + 1 < ((n + 3 : Nat) : Int) := by omega
  have j2 : (n : Int) + 2 < ((n + 3 : Nat) : Int) := by omega
  have j3 : (0 : Int) ≤ (n : Int) + 1 := by omega
  have j4 : (0 : Int) ≤ (n : Int) + 2 := by omega
  have j5 : ((n : Int) + 1).toNat = n + 1 := by omega
  have j6 : ((n : Int) + 2).toNat = n + 2 := by omega
  have eq3 : (((n + 3 : Nat) : Int) == (n : Int) + 3) = true := by simp
  clear hn hs hb h256 hcs hl e1 g0 g1 g2
  go_enter Tryd.func25, Tryd.ntmps25
  go_wp2_with fail
  refine Calls.mono QA.out ?_
  rintro e w' ⟨rfl, rfl⟩
  go_wp2
  go_ret
  exact ⟨rfl, rfl⟩
/-- bytes of a window turned over -/
def xr (l : List Nat) (p k c : Nat) : List Nat := (List.range l.length).map (fun i => if p ≤ i ∧ i < p + k then l.getD i 0 ^^^ c else l.getD i 0)
theorem xr_len (l : List Nat) (p k c : Nat) : (xr l p k c).length = l.length := by simp [xr]
theorem xr_get (l : List Nat) (p k c i : Nat) (h : i < l.length) : (xr l p k c).getD i 0 = if p ≤ i ∧ i < p + k then l.getD i 0 ^^^ c else l.getD i 0 := by
  unfold xr
  simp only [List.getD, List.getElem?_map, List.getElem?_range h, Option.map_some, Option.getD_some]
theorem ext_getD {l m : List Nat} (hl : l.length = m.length) (h : ∀ i, i < l.length → l.getD i 0 = m.getD i 0) : l = m := I4.getD_ext hl h
theorem xr_zero (l : List Nat) (p c : Nat) : xr l p 0 c = l := by
  refine ext_getD (xr_len _ _ _ _) (fun i hi => ?_)
  rw [xr_len] at hi
  rw [xr_get _ _ _ _ _ hi, if_neg (by omega)]
theorem xr_step (l : List Nat) (p k c : Nat) : (xr l p k c).set (p + k) (l.getD (p + k) 0 ^^^ c) = xr l p (k + 1) c := by
  refine ext_getD (by simp [xr_len]) (fun i hi => ?_)
  rw [List.length_set, xr_len] at hi
  rw [xr_get _ _ _ _ _ hi]
  by_cases e : i = p + k
  · subst e
    rw [if_pos (by omega)]
    simp [List.getD, xr_len, hi]
  · have : ((xr l p k c).set (p + k) (l.getD (p + k) 0 ^^^ c)).getD i 0 = (xr l p k c).getD i 0 := by
      simp only [List.getD, List.getElem?_set]
      rw [if_neg (fun h => e h.symm)]
    rw [this, xr_get _ _ _ _ _ hi]
    by_cases h1 : p ≤ i ∧ i < p + k
    · rw [if_pos h1, if_pos (by omega)]
    · rw [if_neg h1, if_neg (by omega)]
theorem xr_next (l : List Nat) (p k c : Nat) (h : p + k < l.length) : (xr l p k c).getD (p + k) 0 = l.getD (p + k) 0 := by rw [xr_get _ _ _ _ _ h, if_neg (by omega)]
theorem xr_back (l : List Nat) (p n c : Nat) : xr (xr l p n c) p n c = l := by
  refine ext_getD (by rw [xr_len, xr_len]) (fun i hi => ?_)
  rw [xr_len, xr_len] at hi
  rw [xr_get _ _ _ _ _ (by rw [xr_len]; exact hi), xr_get _ _ _ _ _ hi]
  by_cases h1 : p ≤ i ∧ i < p + n
  · rw [if_pos h1, if_pos h1, Nat.xor_assoc, Nat.xor_self, Nat.xor_zero]
  · rw [if_neg h1, if_neg h1]
theorem xr_256 (l : List Nat) (p k c : Nat) (h : ∀ x ∈ l, x < 256) (hc : c < 256) : ∀ x ∈ xr l p k c, x < 256 := by
  intro x hx
  simp only [xr, List.mem_map, List.mem_range] at hx
  obtain ⟨i, hi, rfl⟩ := hx
  have h1 := I4.getD_lt l h i
  split
  · exact Nat.xor_lt_two_pow (n := 8) h1 hc
  · exact h1
theorem xr_app (a b : List Nat) (p k c : Nat) (h : p + k ≤ a.length) : xr (a ++ b) p k c = xr a p k c ++ b := by
  refine ext_getD (by simp [xr_len]) (fun i hi => ?_)
  rw [xr_len] at hi
  rw [xr_get _ _ _ _ _ hi]
  by_cases h1 : i < a.length
  · rw [I4.getD_app1 (xr a p k c) b i (by rw [xr_len]; exact h1), xr_get _ _ _ _ _ h1, I4.getD_app1 a b i h1]
  · rw [if_neg (by omega)]
    obtain ⟨j, rfl⟩ : ∃ j, i = a.length + j := ⟨i - a.length, by omega⟩
    rw [I4.getD_app2]
    have := I4.getD_app2 (xr a p k c) b j
    rw [xr_len] at this
    rw [this]
theorem xr_take (l : List Nat) (p k c n : Nat) (h : n ≤ p) : (xr l p k c).take n = l.take n := by
  refine ext_getD (by simp [xr_len]) (fun i hi => ?_)
  rw [List.length_take, xr_len] at hi
  rw [I4.getD_take _ _ _ (by omega), I4.getD_take _ _ _ (by omega), xr_get _ _ _ _ _ (by omega), if_neg (by omega)]
theorem xr_low (l : List Nat) (p k c i : Nat) (h : i < p) : (xr l p k c).getD i 0 = l.getD i 0 := by
  by_cases hi : i < l.length
  · rw [xr_get _ _ _ _ _ hi, if_neg (by omega)]
  · simp [List.getD, List.getElem?_eq_none (show l.length ≤ i by omega), List.getElem?_eq_none (show (xr l p k c).length ≤ i by rw [xr_len]; omega)]
theorem xor_lt (x c : Nat) (hx : x < 256) (hc : c < 256) : x ^^^ c < 256 := Nat.xor_lt_two_pow (n := 8) hx hc
/-- how many of the first k lie in the window -/
def cntW (p D k : Nat) : Nat := min k (p + D) - min k p
theorem three_new (w : World) (x y z : Value) (t : TypeId) : ∀ j u, ([x, y, z] : List Value)[j]? = some u → (w.alloc (.cells #[x, y, z] t)).cell? ((⟨w.heap.size, 0, none⟩ : Addr).add j) = some u := by
  intro j u hj
  rw [Addr.add_lit, Nat.zero_add, World.cell?_alloc_at _ _ _ _ rfl]
  match j, hj with
  | 0, hj => simpa using hj
  | 1, hj => simpa using hj
  | 2, hj => simpa using hj
  | j + 3, hj => simp at hj
end Go.Proofs.YtmeieggnfmhnmaaDoor
