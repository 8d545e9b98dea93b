/-
  Layer 20, captures: bytes held against bytes, copied, read as a number.
-/
import Derived.Test.YtpdfepnifjolkaaQG
import Derived.Deep.QuietTactic
import Derived.BigQuiet
import Derived.Deep.Onto
import Derived.Lib.SliceRun
namespace Go.Proofs.Ytpdfepnifjolkaa
open Go.RowKit Go.ChangeShapes Go.WideShapes

def OwnB (w : World) (base : Nat) (v : Value) (n : Nat) (l : List Nat) : Prop := w.ownsRow base 5 1 v n ((toI l).map (Value.int .u8))
theorem seg_at {k : IntKind} {w : World} {a : Option Addr} {l : List Nat} (h : Seg k w a (toI l)) (i : Nat) (hi : i < l.length) : ∃ b off, a = some ⟨b, off, none⟩ ∧ ∀ j, j < l.length → w.cell? ⟨b, off + j, none⟩ = some (.int k ((l.getD j 0 : Nat) : Int)) := by
  rcases h with hnil | ⟨b, off, rfl, hc⟩
  · have := congrArg List.length hnil; rw [toI_len] at this; simp at this; subst this; simp at hi
  · refine ⟨b, off, rfl, fun j hj => ?_⟩
    have := hc j (by rw [toI_len]; exact hj)
    rwa [toI_getD] at this
theorem to_own {w : World} {g B n : Nat} {e : TypeId} {xs : List Value} (h : w.heap[g]? = some (.cells xs.toArray e (0, 0))) (hb : B ≤ g) (hn : xs.length = n) (hm : n ≤ maxLen) : w.ownsRow B e 1 (.slice (some ⟨g, 0, none⟩) n n) n xs :=
  ⟨by simpa using hn, .inr ⟨g, n, xs.toArray, rfl, hb, h, Nat.le_refl _, hm, by simpa using hn, by simp; rw [← hn]; simp⟩⟩
theorem get256 {l : List Nat} (h : ∀ x ∈ l, x < 256) (i : Nat) : l.getD i 0 < 256 := by
  by_cases hi : i < l.length
  · simp only [List.getD, List.getElem?_eq_getElem hi, Option.getD_some]; exact h _ (List.getElem_mem _)
  · simp [List.getD, List.getElem?_eq_none (Nat.le_of_not_lt hi)]
theorem i64_s (x : Int) (h0 : -1000000000000000000 ≤ x) (h1 : x ≤ 1000000000000000000) : IntKind.i64.wrap x = x := by rw [IntKind.wrap_i64]; omega
theorem conv_any (w : World) (a : Option Addr) (cap : Nat) (l : List Nat) (hs : Seg .u8 w a (toI l)) (h256 : ∀ x ∈ l, x < 256) :
    (convert 22 9 (.slice a l.length cap)).run Try.prog w = .ok (.string (strOf l)) w := by
  rcases hs with hnil | ⟨b, off, rfl, hc⟩
  · have h0 : l = [] := by cases l with | nil => rfl | cons x l => simp [toI] at hnil
    subst h0
    cases a with
    | none => rw [run_convert_bytes_string w 22 9 5 none _ cap Try.underlying22 Try.underlying5 Try.underlying9]; rfl
    | some ad => exact run_convert_bytes_back w 22 9 5 ad cap [] Try.underlying22 Try.underlying5 Try.underlying9 (by intro j hj; simp at hj)
  · have := run_convert_bytes_back (P := Try.prog) w 22 9 5 ⟨b, off, none⟩ cap (l.map UInt8.ofNat) Try.underlying22 Try.underlying5 Try.underlying9 (by
      intro j hj
      have hj' : j < l.length := by simpa using hj
      have h := hc j (by rw [toI_len]; exact hj')
      rw [toI_getD] at h
      have hl := h256 l[j] (List.getElem_mem _)
      simp [List.getD, hj'] at h
      rw [Addr.add_lit, h]
      simp [Nat.mod_eq_of_lt hl])
    rw [List.length_map] at this
    exact this
theorem str_beq (l m : List Nat) (hl2 : ∀ x ∈ l, x < 256) (hm2 : ∀ x ∈ m, x < 256) : ((strOf l).toList == (strOf m).toList) = decide (l = m) := by
  rw [ByteArray.toList_eq, ByteArray.toList_eq]
  by_cases h : l = m
  · subst h; simp
  · have : (strOf l).data.toList ≠ (strOf m).data.toList := fun e => h (strOf_eq l m hl2 hm2 (WideShapes.bytes_inj e))
    rw [decide_eq_false h]
    simpa using this

set_option maxHeartbeats 400000 in
set_option maxRecDepth 100000 in
theorem equal_any (a b : Option Addr) (na nb ca cb : Nat) (l m : List Nat) (w : World) (hna : l.length = na) (hnb : m.length = nb) (hl : Seg .u8 w a (toI l)) (hm : Seg .u8 w b (toI m)) (hl2 : ∀ x ∈ l, x < 256) (hm2 : ∀ x ∈ m, x < 256) :
    Calls Try.prog 18 #[.slice a na ca, .slice b nb cb] w fun e w' => e = .returned (.bool (decide (l = m))) ∧ w = w' := by
  have k1 := conv_any w a ca l hl hl2
  have k2 := conv_any w b cb m hm hm2
  rw [hna] at k1
  rw [hnb] at k2
  have HD : Hid _ := str_beq l m hl2 hm2
  obtain ⟨s, hs⟩ : ∃ s, s = strOf l := ⟨_, rfl⟩
  obtain ⟨t, ht⟩ : ∃ t, t = strOf m := ⟨_, rfl⟩
  rw [← hs] at k1 HD
  rw [← ht] at k2 HD
  clear hs ht hna hnb
  go_enter Try.func18, Try.ntmps18
  go_wp2
  go_ret
  exact ⟨congrArg (fun b => Ending.returned (.bool b)) HD.out, rfl⟩

set_option maxHeartbeats 800000 in
set_option maxRecDepth 100000 in
theorem bclone_any (a : Option Addr) (n c : Nat) (l : List Nat) (w : World) (hn : l.length = n) (hs : Seg .u8 w a (toI l)) (hm : n ≤ 1048576) :
    Calls Try.prog 20 #[.slice a n c] w fun e w' => ∃ v, e = .returned v ∧ OwnB w' w.heap.size v n l ∧ Below w.heap.size w w' := by
  obtain ⟨i0, z0, hi, hz0, hz1, hz2, hz3⟩ : ∃ i z, Try.prog.info? 5 = some i ∧ i.zero = some z ∧ i.size = 1 ∧ i.bytes = 1 ∧ z.cells.size = 1 := by
    have h := Try.infoByte
    cases hi : Try.prog.info? 5 with
    | none => rw [hi] at h; cases h
    | some i => rw [hi] at h; simp at h; exact ⟨i, _, rfl, h.1, h.2.1, h.2.2, rfl⟩
  cases a with
  | none =>
    have hl : l = [] := by
      rcases hs with h | ⟨b, off, e, _⟩
      · simpa [toI] using h
      · cases e
    subst hl
    have hn0 : n = 0 := by simpa using hn.symm
    subst hn0
    have e0 : ∀ W : World, (binOp .eql 22 (.slice none 0 c) (.slice none 0 0)).run Try.prog W = .ok (.bool true) W := fun W => Lib.run_eql_slice_nil W 22 5 none 0 c 0 0 Try.underlying22
    clear hi hz0 hz1 hz2 hz3
    go_enter Try.func20, Try.ntmps20
    go_wp2
    go_ret
    exact ⟨_, rfl, World.ownsRow_nil _ _ _ _, Below.refl _ _⟩
  | some x =>
    have e0 : ∀ W : World, (binOp .eql 22 (.slice (some x) n c) (.slice none 0 0)).run Try.prog W = .ok (.bool false) W := fun W => Lib.run_eql_slice_nil W 22 5 (some x) n c 0 0 Try.underlying22
    have hb : Below w.heap.size w (w.alloc (.cells #[] 5)) := (Below.refl _ _).alloc (Nat.le_refl _) _
    have ho : (w.alloc (.cells #[] 5)).ownsRow w.heap.size 5 1 (.slice (some ⟨w.heap.size, 0, none⟩) 0 0) 0 [] := to_own (heap_alloc_new _ _) (Nat.le_refl _) rfl (by decide)
    have HS : Hid _ := hs.old hb
    have HN : Hid (l.length = n) := hn
    have HB : Hid _ := hb
    have HOW : Hid _ := ho
    have HI : Hid (Try.prog.info? 5 = some i0 ∧ i0.zero = some z0 ∧ i0.size = 1 ∧ i0.bytes = 1 ∧ z0.cells.size = 1) := ⟨hi, hz0, hz1, hz2, hz3⟩
    clear hb ho hs hn hi hz0 hz1 hz2 hz3
    go_enter Try.func20, Try.ntmps20
    go_wp2_with (first | (at_builtin; refine append_split_seg rfl (.tmp 5) (.tmp 6) 22 rfl w.heap.size 5 i0 z0 1 Try.underlying22 HI.out.1 HI.out.2.1 HI.out.2.2.1 HI.out.2.2.2.1 HI.out.2.2.2.2 (.slice (some ⟨w.heap.size, 0, none⟩) 0 0) 0 [] rfl HOW.out .u8 (some x) n c (toI l) rfl (by rw [toI_len]; exact HN.out) HS.out (by unfold maxLen; omega) (by omega) (by simp) ?_))
    intro v' w' ho' _ hg
    have HF : Hid (Below w.heap.size w w') := HB.out.grown hg HB.out.size (by intro k hk; simp [Value.ownBlock] at hk; omega)
    have HO : Hid (OwnB w' w.heap.size v' n l) := by
      first | exact ho' | simpa using ho'
    clear ho' hg
    go_wp2
    go_ret
    exact ⟨_, rfl, HO.out, HF.out⟩

def mg : List Nat := [87, 69, 73, 82, 67, 65, 80, 49]
theorem mg256 : ∀ x ∈ mg, x < 256 := by decide
set_option maxHeartbeats 800000 in
set_option maxRecDepth 100000 in
/-- whether some bytes begin with some others -/
theorem prefix_any (a b : Option Addr) (na nb ca cb : Nat) (l m : List Nat) (w : World) (hna : l.length = na) (hnb : m.length = nb) (hcap : na ≤ ca) (hl : Seg .u8 w a (toI l)) (hm : Seg .u8 w b (toI m)) (hl2 : ∀ x ∈ l, x < 256) (hm2 : ∀ x ∈ m, x < 256) :
    Calls Try.prog 15 #[.slice a na ca, .slice b nb cb] w fun e w' => e = .returned (.bool (decide (l.take m.length = m))) ∧ w = w' := by
  by_cases hle : nb ≤ na
  · have QE : Hid (∀ c, Calls Try.prog 18 #[.slice a nb c, .slice b nb cb] w fun e w' => e = .returned (.bool (decide (l.take m.length = m))) ∧ w = w') := fun c =>
      equal_any a b nb nb c cb (l.take m.length) m w (by rw [List.length_take]; omega) hnb (by rw [← toI_take]; exact hl.part0 _ (by rw [toI_len]; omega)) hm (fun x hx => hl2 x (List.mem_of_mem_take hx)) hm2
    have g1 : decide (nb ≤ na) = true := decide_eq_true hle
    have g2 : decide ((nb : Int) ≤ (na : Int)) = true := decide_eq_true (by omega)
    have g3 : (nb : Int) ≤ (ca : Int) := by omega
    have g4 : (0 : Int) ≤ (nb : Int) := by omega
    have HH : Hid (hna = hna) := rfl
    clear hl hm hl2 hm2 HH
    clear hna hnb
    go_enter Try.func15, Try.ntmps15
    go_wp2_with fail
    refine Calls.mono (QE.out _) ?_
    rintro e w1 ⟨rfl, rfl⟩
    go_wp2
    go_ret
    exact ⟨rfl, rfl⟩
  · have HF : Hid (¬ l.take m.length = m) := fun e => by have := congrArg List.length e; rw [List.length_take] at this; omega
    have g1 : decide (nb ≤ na) = false := decide_eq_false hle
    have g2 : decide ((nb : Int) ≤ (na : Int)) = false := decide_eq_false (by omega)
    clear hl hm hl2 hm2
    clear hna hnb
    go_enter Try.func15, Try.ntmps15
    go_wp2
    go_ret
    exact ⟨by rw [decide_eq_false HF.out]; rfl, rfl⟩

/-- the number that some bytes are, the highest first -/
def num (l : List Nat) : Nat := l.foldl (fun n x => n * 256 + x) 0
theorem num_lt (l : List Nat) (h : ∀ x ∈ l, x < 256) : num l < 256 ^ l.length := by
  have key : ∀ (l : List Nat) (n : Nat), (∀ x ∈ l, x < 256) → l.foldl (fun n x => n * 256 + x) n < (n + 1) * 256 ^ l.length := by
    intro l
    induction l with
    | nil => intro n _; simp
    | cons x r ih =>
      intro n h
      have h1 := ih (n * 256 + x) (fun y hy => h y (List.mem_cons_of_mem _ hy))
      have hx := h x (List.mem_cons_self ..)
      simp only [List.foldl_cons, List.length_cons, Nat.pow_succ]
      refine Nat.lt_of_lt_of_le h1 ?_
      calc (n * 256 + x + 1) * 256 ^ r.length ≤ ((n + 1) * 256) * 256 ^ r.length := Nat.mul_le_mul_right _ (by omega)
        _ = (n + 1) * (256 ^ r.length * 256) := by rw [Nat.mul_assoc, Nat.mul_comm 256]
  simpa [num] using key l 0 h
theorem num_take (l : List Nat) (k : Nat) (h : k < l.length) : num (l.take (k + 1)) = num (l.take k) * 256 + l.getD k 0 := by
  rw [List.take_succ_eq_append_getElem h, num, num, List.foldl_append]
  simp [List.getD, h]
theorem or_num (x y : Nat) (hx : x < 72057594037927936) (hy : y < 256) : bits .or .u64 ((x : Int) * 256) (y : Int) = ((x * 256 + y : Nat) : Int) := by
  rw [show (x : Int) * 256 = ((x * 256 : Nat) : Int) by omega, u64_or_nat _ _ (by omega) (by omega)]
  have h2 := Nat.two_pow_add_eq_or_of_lt (i := 8) (b := y) (by omega) x
  have h3 : 256 * x ||| y = 256 * x + y := h2.symm
  rw [Nat.mul_comm x 256, h3]
set_option maxHeartbeats 800000 in
set_option maxRecDepth 100000 in
theorem high_any (a : Option Addr) (n c : Nat) (l : List Nat) (w : World) (hn : l.length = n) (h4 : n ≤ 4) (hs : Seg .u8 w a (toI l)) (h256 : ∀ x ∈ l, x < 256) :
    Calls Try.prog 19 #[.slice a n c] w fun e w' => e = .returned (.int .u64 ((num l : Nat) : Int)) ∧ w = w' := by
  have HS : Hid (Seg .u8 w a (toI l) ∧ l.length = n ∧ ∀ x ∈ l, x < 256) := ⟨hs, hn, h256⟩
  clear hs hn h256
  go_enter Try.func19, Try.ntmps19
  go_wp2_with fail
  go_loopw [3, 8] (fun sx ix wr => ∃ k : Nat, k ≤ n ∧ ix = .int .i64 k ∧ sx = .int .u64 ((num (l.take k) : Nat) : Int) ∧ wr = w) (fun _ ix _ => n - (intOf ix).toNat)
  case atStart => exact ⟨0, Nat.zero_le _, rfl, rfl, rfl⟩
  case round =>
    obtain ⟨k, hk, rfl, rfl, rfl⟩ := hrel
    by_cases hlt : k < n
    · obtain ⟨b, off, rfl, hc⟩ := seg_at HS.out.1 k (by rw [HS.out.2.1]; exact hlt)
      have c1 := hc k (by rw [HS.out.2.1]; exact hlt)
      obtain ⟨y, hy⟩ : ∃ y, y = l.getD k 0 := ⟨_, rfl⟩
      have hy2 : y < 256 := by rw [hy]; exact get256 HS.out.2.2 k
      have HT : Hid (num (l.take (k + 1)) = num (l.take k) * 256 + y) := by rw [hy]; exact num_take l k (by rw [HS.out.2.1]; exact hlt)
      have hx3 : num (l.take k) < 16777216 := by
        have h1 := num_lt (l.take k) (fun x hx => HS.out.2.2 x (List.mem_of_mem_take hx))
        rw [List.length_take, HS.out.2.1] at h1
        have h2 : (256 : Nat) ^ (min k n) ≤ 256 ^ 3 := Nat.pow_le_pow_right (by omega) (by omega)
        omega
      obtain ⟨x, hx⟩ : ∃ x, x = num (l.take k) := ⟨_, rfl⟩
      rw [← hx] at hx3 HT ⊢
      rw [← hy] at c1
      have HOR := or_num x y (by omega) hy2
      clear hc hx hy
      have w1 : IntKind.u64.wrap ((x : Int) * 256) = (x : Int) * 256 := by rw [IntKind.wrap_u64]; omega
      have w2 : IntKind.i64.wrap ((k : Int) + 1) = (k : Int) + 1 := i64_s _ (by omega) (by omega)
      go_wp2
      go_roundw
      case rel => exact ⟨k + 1, by omega, by go_num, by rw [HT.out]; first | rfl | go_num, trivial⟩
      case measure => simp [intOf]; omega
    · obtain rfl : k = n := by omega
      have HL : Hid (l.take k = l) := List.take_of_length_le (by rw [HS.out.2.1]; omega)
      go_wp2
      go_ret
      exact ⟨by rw [HL.out]; rfl, rfl⟩
end Go.Proofs.Ytpdfepnifjolkaa
