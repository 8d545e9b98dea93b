/-
  I8Pure I8Pure2 I8Eq I8Whom I8Nei I8Nei2 IcmpNdBack0, one behind the other.
-/
import Derived.Test.YtijipfciimcnpaaDoorI8Put0
import Derived.Test.YtijipfciimcnpaaDoorI8PutN
import Derived.Test.YtijipfciimcnpaaDoorI8Put1
import Derived.Test.YtijipfciimcnpaaDoorI8Put2
namespace Go.Proofs.YtijipfciimcnpaaDoor
open Go.RowKit
open I8 (M8)

theorem hdA_congr (x y : Nat → Nat) (n i : Nat) (h : x i = y i) : hdA x n i = hdA y n i := by unfold hdA; rw [h]
theorem same16_congr (x y a b : Nat → Nat) (h : ∀ i, i < 16 → x i = y i) (k : ∀ i, i < 16 → a i = b i) : same16 x a = same16 y b := by
  have e : ∀ p q : Bool, (p = true ↔ q = true) → p = q := by decide
  apply e
  rw [same16_iff, same16_iff]
  constructor
  · intro g i hi; rw [← h i hi, ← k i hi]; exact g i hi
  · intro g i hi; rw [h i hi, k i hi]; exact g i hi
theorem mt_congr (V : Int) (x y : Nat → Nat) (h : ∀ i, i < 16 → x i = y i) (k : Nat) : mt V x k = mt V y k := by
  unfold mt
  rw [same16_congr (hdA x (ln k)) (hdA y (ln k)) (nt k) (nt k) (fun i hi => hdA_congr x y _ i (h i hi)) (fun _ _ => rfl)]
theorem clF_congr (V : Int) (x y : Nat → Nat) (h : ∀ i, i < 16 → x i = y i) : ∀ f k, clF V x f k = clF V y f k
  | 0, _ => rfl
  | f + 1, k => by rw [clF, clF, mt_congr V x y h, clF_congr V x y h f]
theorem clsA_congr (V : Int) (x y : Nat → Nat) (h : ∀ i, i < 16 → x i = y i) : clsA V x = clsA V y := by
  unfold clsA vld
  rw [clF_congr V x y h, same16_congr (hdA x 32) (hdA y 32) x y (fun i hi => hdA_congr x y _ i (h i hi)) h]
theorem tmB_congr (V : Int) (x y : Nat → Nat) (h : ∀ i, i < 16 → x i = y i) : tmB V x = tmB V y := by
  unfold tmB
  rw [clsA_congr V x y h]
theorem tmB_six (V : Int) (x : Nat → Nat) (h : tmB V x = true) : V = 6 := by
  unfold tmB at h
  by_cases e : V = 6
  · exact e
  · rw [beq_eq_false_iff_ne.2 e] at h; simp at h
theorem pnD_x (l : Nat) (x : Nat → Nat) (h : Bool) (m : Nat → Nat) (i : Nat) (hi : i < 16) : tgX (pnD l x h m) i = x i := by
  unfold tgX pnD
  rw [List.getD, List.getElem?_append_left (by rw [ipL_len]; exact hi)]
  simp [ipL, hi]
theorem pnD_len (l : Nat) (x : Nat → Nat) (h : Bool) (m : Nat → Nat) : (pnD l x h m).length = if h then 24 else 16 := by
  unfold pnD
  cases h <;> simp [ipL_len, mcL]
theorem pnD_opt (l : Nat) (x m : Nat → Nat) (i : Nat) : (pnD l x true m).getD (16 + i) 0 = ([l, 1] ++ mcL m).getD i 0 := by
  unfold pnD
  rw [List.getD, List.getElem?_append_right (by rw [ipL_len]; omega), ipL_len]
  simp [List.getD]
theorem pnD_opOk (l : Nat) (x m : Nat → Nat) : OpOk8 (pnD l x true m) 16 ∧ opU (pnD l x true m) 16 = 1 := by
  have e : opU (pnD l x true m) 16 = 1 := by unfold opU; rw [pnD_opt l x m 1]; rfl
  have hl := pnD_len l x true m
  refine ⟨⟨by rw [hl]; decide, by rw [e]; decide, by rw [e, hl]; decide⟩, e⟩
theorem mcX_opt (l : Nat) (x m : Nat → Nat) (i : Nat) (hi : i < 6) : mcX (pnD l x true m) 16 i = m i := by
  unfold mcX tgX
  have h1 := pnD_opt l x m (2 + i)
  rw [List.getD, List.getElem?_take, if_pos hi, List.getElem?_drop]
  rw [List.getD] at h1
  rw [show 16 + 2 + i = 16 + (2 + i) by omega, h1]
  have : ([l, 1] ++ mcL m).getD (2 + i) 0 = (mcL m).getD i 0 := by simp [List.getD, Nat.add_comm 2 i]
  rw [this]
  simp [mcL, List.getD, hi]
theorem lk_put_no (l : Nat) (x m : Nat → Nat) : lk (pnD l x false m) l (pnD l x false m).length 16 false (fun _ => 0) = (fun _ => 0, false, 0) :=
  lk_end _ _ _ _ _ _ (by rw [pnD_len]; decide)
theorem lk_put_yes (l : Nat) (x m : Nat → Nat) : lk (pnD l x true m) l (pnD l x true m).length 16 false (fun _ => 0) = (mcX (pnD l x true m) 16, true, 0) := by
  have hl := pnD_len l x true m
  obtain ⟨ho, hu⟩ := pnD_opOk l x m
  obtain ⟨g, _, e⟩ := lk_new (pnD l x true m) (l : Int) (pnD l x true m).length 16 (fun _ => 0) (by rw [hl]; decide) (by omega) ho (by have h := pnD_opt l x m 0; rw [Nat.add_zero] at h; rw [h]; rfl) hu
  rw [e]
  exact lk_end _ _ _ _ _ _ (by rw [hu, hl]; decide)
theorem fB_rs (r s o : Bool) : fB (rsB r s o) 2147483648 = r ∧ fB (rsB r s o) 1073741824 = s ∧ fB (rsB r s o) 536870912 = o := by
  cases r <;> cases s <;> cases o <;> decide
theorem rs_zero (r s o : Bool) (h : rsB r s o = 0) : r = false ∧ s = false ∧ o = false := by
  revert h
  cases r <;> cases s <;> cases o <;> decide
theorem rs_in (r s o : Bool) : I8.inB (rsB r s o) 4294967295 = true := by
  cases r <;> cases s <;> cases o <;> decide
theorem ndC_congr (k V : Int) (x y : Nat → Nat) (r s o h : Bool) (m n : Nat → Nat) (hx : ∀ i, i < 16 → x i = y i) (hm : ∀ i, i < 6 → m i = n i) : ndC k V x r s o h m = ndC k V y r s o h n := by
  unfold ndC
  rw [hx 0 (by decide), hx 1 (by decide), hx 2 (by decide), hx 3 (by decide), hx 4 (by decide), hx 5 (by decide), hx 6 (by decide), hx 7 (by decide), hx 8 (by decide), hx 9 (by decide), hx 10 (by decide), hx 11 (by decide), hx 12 (by decide), hx 13 (by decide), hx 14 (by decide), hx 15 (by decide), hm 0 (by decide), hm 1 (by decide), hm 2 (by decide), hm 3 (by decide), hm 4 (by decide), hm 5 (by decide)]
end Go.Proofs.YtijipfciimcnpaaDoor
namespace Go.Proofs.YtijipfciimcnpaaDoor
open Go.RowKit
open I8 (M8)

theorem same6_iff (x y : Nat → Nat) : same6 x y = true ↔ ∀ i, i < 6 → x i = y i := by
  unfold same6
  rw [decide_eq_true_iff]
  constructor
  · rintro ⟨h0, h1, h2, h3, h4, h5⟩ i hi
    have : i = 0 ∨ i = 1 ∨ i = 2 ∨ i = 3 ∨ i = 4 ∨ i = 5 := by omega
    rcases this with rfl | rfl | rfl | rfl | rfl | rfl <;> assumption
  · intro h
    exact ⟨h 0 (by decide), h 1 (by decide), h 2 (by decide), h 3 (by decide), h 4 (by decide), h 5 (by decide)⟩
theorem pnE_zero (k V : Int) (x : Nat → Nat) (r s o h : Bool) (m : Nat → Nat) (e : pnE k V x r s o h m = 0) : (k = 1 → rsB r s o = 0) ∧ (h = false → same6 m (fun _ => 0) = true) ∧ tmB V x = true := by
  unfold pnE at e
  split at e
  · exact absurd e (by decide)
  · rename_i hn
    split at e
    · rename_i ht
      refine ⟨fun hk => Decidable.byContradiction fun hr => hn (.inl ⟨hk, hr⟩), fun hh => ?_, ht⟩
      cases hs : same6 m (fun _ => 0)
      · exact absurd (.inr ⟨hh, hs⟩) hn
      · rfl
    · exact absurd e (by decide)
theorem put_parse_1 (V : Int) (x : Nat → Nat) (r s o h : Bool) (m : Nat → Nat) (e : pnE 1 V x r s o h m = 0) : I8.chk (⟨6, 135, 0, rsB r s o, pnD 1 x h m⟩ : M8) = 0 ∧ pdE (⟨6, 135, 0, rsB r s o, pnD 1 x h m⟩ : M8) = 0 ∧ pdC (⟨6, 135, 0, rsB r s o, pnD 1 x h m⟩ : M8) = ndC 1 V x r s o h m := by
  obtain ⟨hr, hm, ht⟩ := pnE_zero _ _ _ _ _ _ _ _ e
  have hV := tmB_six V x ht
  subst hV
  have hl := pnD_len 1 x h m
  have hck : I8.chk (⟨6, 135, 0, rsB r s o, pnD 1 x h m⟩ : M8) = 0 := by
    unfold I8.chk
    have h1 : I8.isV ((⟨6, 135, 0, rsB r s o, pnD 1 x h m⟩ : M8)).v = true := rfl
    have h2 : I8.okF (⟨6, 135, 0, rsB r s o, pnD 1 x h m⟩ : M8) = true := by
      unfold I8.okF
      have := rs_in r s o
      simp only [this]
      decide
    have h3 : ¬ 65515 < 8 + ((⟨6, 135, 0, rsB r s o, pnD 1 x h m⟩ : M8)).d.length := by show ¬ 65515 < 8 + (pnD 1 x h m).length; rw [hl]; cases h <;> decide
    rw [if_pos h1, if_pos h2, if_neg h3]
  have hk : mkD (⟨6, 135, 0, rsB r s o, pnD 1 x h m⟩ : M8) = 1 := by unfold mkD; rw [if_pos ⟨rfl, rfl⟩]; rfl
  have htg : tgE (pnD 1 x h m) = 0 := by
    unfold tgE
    rw [if_neg (by rw [hl]; cases h <;> decide), tmB_congr 6 (tgX (pnD 1 x h m)) x (fun i hi => pnD_x 1 x h m i hi), ht]
    rfl
  have hlk : ∃ mm, lkM (⟨6, 135, 0, rsB r s o, pnD 1 x h m⟩ : M8) = (mm, h, 0) ∧ ∀ i, i < 6 → mm i = m i := by
    unfold lkM
    rw [hk]
    cases h
    · refine ⟨fun _ => 0, lk_put_no 1 x m, fun i hi => ?_⟩
      exact ((same6_iff _ _).1 (hm rfl) i hi).symm
    · exact ⟨_, lk_put_yes 1 x m, fun i hi => mcX_opt 1 x m i hi⟩
  obtain ⟨mm, hlk, hmm⟩ := hlk
  have hpe : pdE (⟨6, 135, 0, rsB r s o, pnD 1 x h m⟩ : M8) = 0 := by
    unfold pdE
    rw [if_neg (by rw [hck]; decide), hk, if_pos (by rfl), if_neg (fun f => f htg), hlk]
  refine ⟨hck, hpe, ?_⟩
  unfold pdC
  rw [if_pos hpe]
  unfold ndM
  rw [hlk, hk]
  obtain ⟨b1, b2, b3⟩ := fB_rs r s o
  show ndC 1 6 (tgX (pnD 1 x h m)) (((1 : Int) == 2) && fB (rsB r s o) 2147483648) (((1 : Int) == 2) && fB (rsB r s o) 1073741824) (((1 : Int) == 2) && fB (rsB r s o) 536870912) h mm = _
  rw [b1, b2, b3]
  obtain ⟨z1, z2, z3⟩ := rs_zero r s o (hr rfl)
  rw [z1, z2, z3]
  exact ndC_congr 1 6 _ _ _ _ _ h _ _ (fun i hi => pnD_x 1 x h m i hi) hmm
theorem put_parse_2 (V : Int) (x : Nat → Nat) (r s o h : Bool) (m : Nat → Nat) (e : pnE 2 V x r s o h m = 0) : I8.chk (⟨6, 136, 0, rsB r s o, pnD 2 x h m⟩ : M8) = 0 ∧ pdE (⟨6, 136, 0, rsB r s o, pnD 2 x h m⟩ : M8) = 0 ∧ pdC (⟨6, 136, 0, rsB r s o, pnD 2 x h m⟩ : M8) = ndC 2 V x r s o h m := by
  obtain ⟨hr, hm, ht⟩ := pnE_zero _ _ _ _ _ _ _ _ e
  have hV := tmB_six V x ht
  subst hV
  have hl := pnD_len 2 x h m
  have hck : I8.chk (⟨6, 136, 0, rsB r s o, pnD 2 x h m⟩ : M8) = 0 := by
    unfold I8.chk
    have h1 : I8.isV ((⟨6, 136, 0, rsB r s o, pnD 2 x h m⟩ : M8)).v = true := rfl
    have h2 : I8.okF (⟨6, 136, 0, rsB r s o, pnD 2 x h m⟩ : M8) = true := by
      unfold I8.okF
      have := rs_in r s o
      simp only [this]
      decide
    have h3 : ¬ 65515 < 8 + ((⟨6, 136, 0, rsB r s o, pnD 2 x h m⟩ : M8)).d.length := by show ¬ 65515 < 8 + (pnD 2 x h m).length; rw [hl]; cases h <;> decide
    rw [if_pos h1, if_pos h2, if_neg h3]
  have hk : mkD (⟨6, 136, 0, rsB r s o, pnD 2 x h m⟩ : M8) = 2 := by unfold mkD; rw [if_pos ⟨rfl, rfl⟩]; rfl
  have htg : tgE (pnD 2 x h m) = 0 := by
    unfold tgE
    rw [if_neg (by rw [hl]; cases h <;> decide), tmB_congr 6 (tgX (pnD 2 x h m)) x (fun i hi => pnD_x 2 x h m i hi), ht]
    rfl
  have hlk : ∃ mm, lkM (⟨6, 136, 0, rsB r s o, pnD 2 x h m⟩ : M8) = (mm, h, 0) ∧ ∀ i, i < 6 → mm i = m i := by
    unfold lkM
    rw [hk]
    cases h
    · refine ⟨fun _ => 0, lk_put_no 2 x m, fun i hi => ?_⟩
      exact ((same6_iff _ _).1 (hm rfl) i hi).symm
    · exact ⟨_, lk_put_yes 2 x m, fun i hi => mcX_opt 2 x m i hi⟩
  obtain ⟨mm, hlk, hmm⟩ := hlk
  have hpe : pdE (⟨6, 136, 0, rsB r s o, pnD 2 x h m⟩ : M8) = 0 := by
    unfold pdE
    rw [if_neg (by rw [hck]; decide), hk, if_pos (by rfl), if_neg (fun f => f htg), hlk]
  refine ⟨hck, hpe, ?_⟩
  unfold pdC
  rw [if_pos hpe]
  unfold ndM
  rw [hlk, hk]
  obtain ⟨b1, b2, b3⟩ := fB_rs r s o
  show ndC 2 6 (tgX (pnD 2 x h m)) (((2 : Int) == 2) && fB (rsB r s o) 2147483648) (((2 : Int) == 2) && fB (rsB r s o) 1073741824) (((2 : Int) == 2) && fB (rsB r s o) 536870912) h mm = _
  rw [b1, b2, b3]
  exact ndC_congr 2 6 _ _ _ _ _ h _ _ (fun i hi => pnD_x 2 x h m i hi) hmm
theorem parse_put (M : M8) (h256 : ∀ x ∈ M.d, x < 256) (e : pdE M = 0) : ∃ (k : Int) (r s o h : Bool) (m : Nat → Nat), (k = 1 ∨ k = 2) ∧ pdC M = ndC k 6 (tgX M.d) r s o h m ∧ pnE k 6 (tgX M.d) r s o h m = 0 ∧ (∀ i, m i < 256) ∧ (∀ i, tgX M.d i < 256) := by
  have e0 := e
  unfold pdE at e
  split at e
  · rename_i hc; exact absurd e (by omega)
  · split at e
    · rename_i hk
      split at e
      · rename_i ht; exact absurd e ht
      · rename_i ht
        have ht : tgE M.d = 0 := Decidable.byContradiction ht
        have h12 : mkD M = 1 ∨ mkD M = 2 := by simpa [isK] using hk
        have hok := lk_ok M.d (mkD M) h256 M.d.length 16 false (fun _ => 0) (fun _ => by show 0 < 256; omega) (fun _ => rfl)
        have htm : tmB 6 (tgX M.d) = true := by
          unfold tgE at ht
          split at ht
          · exact absurd ht (by decide)
          · split at ht
            · assumption
            · exact absurd ht (by decide)
        refine ⟨mkD M, _, _, _, (lkM M).2.1, (lkM M).1, h12, by unfold pdC; rw [if_pos e0]; rfl, ?_, hok.1, fun i => tgX_lt M.d h256 i⟩
        unfold pnE
        rw [if_neg, htm]
        · rfl
        · rintro (⟨h1, h2⟩ | ⟨h1, h2⟩)
          · apply h2
            rw [h1, show ((1 : Int) == 2) = false from rfl]
            simp only [Bool.false_and]
            decide
          · have := hok.2 h1
            rw [show (lkM M).1 = fun _ => 0 from this] at h2
            exact absurd h2 (by decide)
    · exact absurd e (by decide)
end Go.Proofs.YtijipfciimcnpaaDoor
namespace Go.Proofs.YtijipfciimcnpaaDoor
open Go.RowKit
open I8 (M8)

set_option maxHeartbeats 1600000 in
set_option maxRecDepth 100000 in
theorem eq6d (x y : Nat → Nat) (w : World) (d : Nat) : (Op.equalIn (d + 2) 26 (.agg (macC x)) (.agg (macC y))).run Tryd.prog w = .ok (same6 x y) w := by
  have u5 := Tryd.underlying5
  have a5 := Tryd.isAgg5
  have z5 := Tryd.sizeOf5
  rw [show (d + 2 : Nat) = (d + 1) + 1 from rfl, Op.equalIn]
  unfold macC
  simp only [Sem.run_bind, run_underlying Tryd.underlying26, Result.andThen_ok]
  simp only [Std.Legacy.Range.forIn_eq_forIn_range', Std.Legacy.Range.size, Nat.sub_zero, Nat.add_sub_cancel, Nat.div_one, List.range'_succ, List.range'_zero, List.forIn_cons, List.forIn_nil]
  go_simp
  unfold same6
  (repeat' split) <;> simp_all <;> omega
theorem same6_self (x : Nat → Nat) : same6 x x = true := (same6_iff x x).2 (fun _ _ => rfl)
theorem same16_self (x : Nat → Nat) : same16 x x = true := (same16_iff x x).2 (fun _ _ => rfl)
theorem Tryd.ndFields : Tryd.prog.underlying 28 = some (.struct (Tryd.prog.fieldsOf 28)) := by kernel_rfl
theorem Tryd.ndStood : Tryd.prog.stoodInHeld 28 = false := by kernel_rfl
theorem Tryd.ndGuard : Tryd.prog.eqGuardType Tryd.prog.depth 28 = false := by kernel_rfl
section
variable (k V : Int) (x : Nat → Nat) (r s o h : Bool) (m : Nat → Nat) (w : World)
theorem nd_part0 : (part 3 (ndC k V x r s o h m) 0).run Tryd.prog w = .ok (.int .i64 k) w := by
  have a5 := Tryd.isAgg3
  have z5 := Tryd.sizeOf3
  unfold ndC
  go_simp
set_option maxRecDepth 100000 in
theorem nd_part1 : (part 24 (ndC k V x r s o h m) 1).run Tryd.prog w = .ok (.agg (ipCells V x)) w := by
  have a5 := Tryd.isAgg24
  have z5 := Tryd.sizeOf24
  unfold ndC ipCells
  go_simp
theorem nd_part18 : (part 4 (ndC k V x r s o h m) 18).run Tryd.prog w = .ok (.bool r) w := by
  have a5 := Tryd.isAgg4
  have z5 := Tryd.sizeOf4
  unfold ndC
  go_simp
theorem nd_part19 : (part 4 (ndC k V x r s o h m) 19).run Tryd.prog w = .ok (.bool s) w := by
  have a5 := Tryd.isAgg4
  have z5 := Tryd.sizeOf4
  unfold ndC
  go_simp
theorem nd_part20 : (part 4 (ndC k V x r s o h m) 20).run Tryd.prog w = .ok (.bool o) w := by
  have a5 := Tryd.isAgg4
  have z5 := Tryd.sizeOf4
  unfold ndC
  go_simp
theorem nd_part21 : (part 4 (ndC k V x r s o h m) 21).run Tryd.prog w = .ok (.bool h) w := by
  have a5 := Tryd.isAgg4
  have z5 := Tryd.sizeOf4
  unfold ndC
  go_simp
set_option maxRecDepth 100000 in
theorem nd_part22 : (part 26 (ndC k V x r s o h m) 22).run Tryd.prog w = .ok (.agg (macC m)) w := by
  have a5 := Tryd.isAgg26
  have z5 := Tryd.sizeOf26
  unfold ndC macC
  go_simp
set_option maxHeartbeats 1600000 in
set_option maxRecDepth 100000 in
theorem eqND : (Op.equalIn 10000 28 (.agg (ndC k V x r s o h m)) (.agg (ndC k V x r s o h m))).run Tryd.prog w = .ok true w := by
  rw [show (10000 : Nat) = 9999 + 1 from rfl, run_equalIn_struct w 9999 28 _ _ Tryd.ndFields Tryd.ndStood]
  rw [show (Tryd.prog.fieldsOf 28).toList = [{ name := "Kind", type := 3, offset := 0, embedded := false, tag := "", pkgPath := "", byteOffset := 0 }, { name := "Target", type := 24, offset := 1, embedded := false, tag := "", pkgPath := "", byteOffset := 8 }, { name := "Router", type := 4, offset := 18, embedded := false, tag := "", pkgPath := "", byteOffset := 32 }, { name := "Solicited", type := 4, offset := 19, embedded := false, tag := "", pkgPath := "", byteOffset := 33 }, { name := "Override", type := 4, offset := 20, embedded := false, tag := "", pkgPath := "", byteOffset := 34 }, { name := "HasMac", type := 4, offset := 21, embedded := false, tag := "", pkgPath := "", byteOffset := 35 }, { name := "Mac", type := 26, offset := 22, embedded := false, tag := "", pkgPath := "", byteOffset := 36 }] from by kernel_rfl]
  have ib : ∀ b : Bool, (Op.equalIn 9999 4 (.bool b) (.bool b)).run Tryd.prog w = .ok true w := fun b => by
    rw [show (9999 : Nat) = 9998 + 1 from rfl, run_equalIn_bool' w 9998 4 b b Tryd.underlying4, beq_self_eq_true]
  have ii : (Op.equalIn 9999 3 (.int .i64 k) (.int .i64 k)).run Tryd.prog w = .ok true w := by
    rw [show (9999 : Nat) = 9998 + 1 from rfl, run_equalIn_int w 9998 3 .i64 .i64 k k Tryd.underlying3, beq_self_eq_true]
  have ip : (Op.equalIn 9999 24 (.agg (ipCells V x)) (.agg (ipCells V x))).run Tryd.prog w = .ok true w := by
    rw [eqIP V V x x w 9996, same16_self, beq_self_eq_true]; rfl
  have im : (Op.equalIn 9999 26 (.agg (macC m)) (.agg (macC m))).run Tryd.prog w = .ok true w := by
    rw [eq6d m m w 9997, same6_self]
  simp [Op.eqFields, Sem.run_bind, Sem.run_ite, nd_part0, nd_part1, nd_part18, nd_part19, nd_part20, nd_part21, nd_part22, ib, ii, ip, im]
end
end Go.Proofs.YtijipfciimcnpaaDoor
namespace Go.Proofs.YtijipfciimcnpaaDoor
open Go.RowKit
open I8 (M8)

def whX (i : Nat) : Nat := [32, 1, 0, 0, 0, 0, 0, 0, 0, 0, 0, 0, 0, 0, 0, 1].getD i 0
def whM (i : Nat) : Nat := [2, 0, 0, 0, 0, 1].getD i 0
theorem built_wha : Tryd.prog.built 22 [(0, .int .u8 32), (1, .int .u8 1), (15, .int .u8 1)] = some (arCells whX) := by kernel_rfl
theorem wpList_wha_built {ops : Array Oper} {rest : List Oper} {o : Oper} {a : Act} {w : World} {Q : Exit → Act → World → Prop}  (ho : o.op = .build 22 #[(0, .const (.int .u8 32)), (1, .const (.int .u8 1)), (15, .const (.int .u8 1))]) (hw : Region.wanted o (yielded ops a.tmps) = true)
    (h : wpList Tryd.prog ops Q rest (a.put o.dst (.agg (arCells whX))) w) : wpList Tryd.prog ops Q (o :: rest) a w := by
  refine wpList_step fun K hK => ?_
  rw [if_pos hw]
  unfold Oper.wp execOp
  have := run_build (P := Tryd.prog) w 22 #[(0, .int .u8 32), (1, .int .u8 1), (15, .int .u8 1)] _ built_wha
  simp only [ho, Sem.run_bind, List.map_toArray, List.map_cons, List.map_nil, this, Act.eval, Result.andThen_ok]
  exact hK _ _ h
theorem built_whi : Tryd.prog.built 24 [(0, .int .i64 6), (1, .agg (arCells whX))] = some (ipCells 6 whX) := by kernel_rfl
theorem wpList_whi_built {ops : Array Oper} {rest : List Oper} {o : Oper} {a : Act} {w : World} {Q : Exit → Act → World → Prop} (x1 : Operand) (ho : o.op = .build 24 #[(0, .const (.int .i64 6)), (1, x1)]) (h1 : a.eval x1 = .agg (arCells whX)) (hw : Region.wanted o (yielded ops a.tmps) = true)
    (h : wpList Tryd.prog ops Q rest (a.put o.dst (.agg (ipCells 6 whX))) w) : wpList Tryd.prog ops Q (o :: rest) a w := by
  refine wpList_step fun K hK => ?_
  rw [if_pos hw]
  unfold Oper.wp execOp
  have := run_build (P := Tryd.prog) w 24 #[(0, .int .i64 6), (1, .agg (arCells whX))] _ built_whi
  have h0 : a.eval (.const (.int .i64 6)) = .int .i64 6 := rfl
  simp only [ho, Sem.run_bind, List.map_toArray, List.map_cons, List.map_nil, h0, h1, this, Result.andThen_ok]
  exact hK _ _ h
theorem built_whm : Tryd.prog.built 26 [(0, .int .u8 2), (1, .int .u8 0), (2, .int .u8 0), (3, .int .u8 0), (4, .int .u8 0), (5, .int .u8 1)] = some (macC whM) := by kernel_rfl
theorem wpList_whm_built {ops : Array Oper} {rest : List Oper} {o : Oper} {a : Act} {w : World} {Q : Exit → Act → World → Prop}  (ho : o.op = .build 26 #[(0, .const (.int .u8 2)), (1, .const (.int .u8 0)), (2, .const (.int .u8 0)), (3, .const (.int .u8 0)), (4, .const (.int .u8 0)), (5, .const (.int .u8 1))]) (hw : Region.wanted o (yielded ops a.tmps) = true)
    (h : wpList Tryd.prog ops Q rest (a.put o.dst (.agg (macC whM))) w) : wpList Tryd.prog ops Q (o :: rest) a w := by
  refine wpList_step fun K hK => ?_
  rw [if_pos hw]
  unfold Oper.wp execOp
  have := run_build (P := Tryd.prog) w 26 #[(0, .int .u8 2), (1, .int .u8 0), (2, .int .u8 0), (3, .int .u8 0), (4, .int .u8 0), (5, .int .u8 1)] _ built_whm
  simp only [ho, Sem.run_bind, List.map_toArray, List.map_cons, List.map_nil, this, Act.eval, Result.andThen_ok]
  exact hK _ _ h
def whN : Array Value := ndC 1 6 whX false false false true whM
set_option maxHeartbeats 800000 in
set_option maxRecDepth 100000 in
theorem whom_any (w : World) : Calls Tryd.prog 35 #[] w fun e w' => e = .returned (.agg whN) ∧ Below w.heap.size w w' := by
  have hn := ndAt_new w ndZ
  have bel : Below w.heap.size w (w.alloc (.cells ndZ 28)) := (Below.refl _ _).alloc (Nat.le_refl _) _
  obtain ⟨W, hW⟩ : ∃ W, W = w.alloc (.cells ndZ 28) := ⟨_, rfl⟩
  rw [← hW] at hn bel
  obtain ⟨R, hR⟩ : ∃ R, R = w.heap.size := ⟨_, rfl⟩
  rw [← hR] at hn
  have HW : Hid (w.alloc (.cells ndZ 28) = W) := hW.symm
  have HR : Hid (w.heap.size = R) := hR.symm
  have HN : Hid (NdAt W R ndZ) := hn
  clear hn hW hR
  go_enter Tryd.func35, Tryd.ntmps35
  go_wp2_with (first | (refine wpList_alloc_nd rfl rfl ?_; rw [HW.out, HR.out]) | (refine wpList_wha_built rfl rfl ?_) | (refine wpList_whi_built (.tmp 1) rfl rfl rfl ?_) | (refine wpList_whm_built rfl rfl ?_) | (refine wpList_ndv_built (.const (.int .i64 1)) (.tmp 2) (.const (.bool true)) (.tmp 3) rfl 1 6 whX true whM rfl rfl rfl rfl rfl ?_) | (refine wpList_store_nd (.tmp 0) (.tmp 4) rfl rfl R ndZ whN ndZ_size rfl (ndC_one _ _ _ _ _ _ _ _) rfl rfl HN.out rfl ?_))
  intro wE hRE kE
  have HRE : Hid (NdAt wE R whN) := hRE
  have HFE : Hid (Below w.heap.size w wE) := bel.trans (kE.below (fun q e => by have e' : q = R := e; have := HR.out; omega) bel.size)
  clear hRE kE
  go_wp2
  (try simp only [Exit.inBlock, Exit.then])
  refine bodyPost_ret (results_cell_row rfl _ _ R 28 whN _ _ rfl HRE.out Tryd.underlying28 rfl Tryd.sizeNd) rfl ?_
  exact ⟨rfl, HFE.out⟩
theorem wpList_eql_nd {ops : Array Oper} {rest : List Oper} {o : Oper} {a : Act} {w : World} {Q : Exit → Act → World → Prop} (X Y : Operand) (ho : o.op = .binOp .eql 28 X Y 28) (k V : Int) (x : Nat → Nat) (r s o' h : Bool) (m : Nat → Nat) (hx : a.eval X = .agg (ndC k V x r s o' h m)) (hy : a.eval Y = .agg (ndC k V x r s o' h m))
    (hw : Region.wanted o (yielded ops a.tmps) = true) (hh : wpList Tryd.prog ops Q rest (a.put o.dst (.bool true)) w) : wpList Tryd.prog ops Q (o :: rest) a w := by
  refine wpList_step fun K hK => ?_
  rw [if_pos hw]
  have hrun : (execOp a.eval o).run Tryd.prog w = .ok (.value (.bool true)) w := by
    obtain ⟨dst, op, type, pos, after, guard⟩ := o
    simp only at ho
    subst ho
    simp only [execOp, Sem.run_bind, Sem.run_pure, hx, hy, run_eqGuard_agg w .eql 28 _ _ _ _ Tryd.ndGuard, Result.andThen_ok, run_eql_struct, eqND]
  unfold Oper.wp
  rw [hrun]
  exact hK _ _ hh
theorem yields_eql_nd {ops : Array Oper} {o : Oper} {a : Act} {S : World → Prop} (X Y : Operand) (ho : o.op = .binOp .eql 28 X Y 28) (k V : Int) (x : Nat → Nat) (r s o' h : Bool) (m : Nat → Nat) (hx : a.eval X = .agg (ndC k V x r s o' h m)) (hy : a.eval Y = .agg (ndC k V x r s o' h m)) (hw : Region.wanted o (yielded ops a.tmps) = true) : YieldsIf Tryd.prog ops S o (.bool true) a := by
  refine .inl ⟨hw, fun w _ => ?_⟩
  obtain ⟨dst, op, type, pos, after, guard⟩ := o
  simp only at ho
  subst ho
  simp only [execOp, Sem.run_bind, Sem.run_pure, hx, hy, run_eqGuard_agg w .eql 28 _ _ _ _ Tryd.ndGuard, Result.andThen_ok, run_eql_struct, eqND]
theorem wpList_neq_nd {ops : Array Oper} {rest : List Oper} {o : Oper} {a : Act} {w : World} {Q : Exit → Act → World → Prop} (X Y : Operand) (ho : o.op = .binOp .neq 28 X Y 28) (k V : Int) (x : Nat → Nat) (r s o' h : Bool) (m : Nat → Nat) (hx : a.eval X = .agg (ndC k V x r s o' h m)) (hy : a.eval Y = .agg (ndC k V x r s o' h m))
    (hw : Region.wanted o (yielded ops a.tmps) = true) (hh : wpList Tryd.prog ops Q rest (a.put o.dst (.bool false)) w) : wpList Tryd.prog ops Q (o :: rest) a w := by
  refine wpList_step fun K hK => ?_
  rw [if_pos hw]
  have hrun : (execOp a.eval o).run Tryd.prog w = .ok (.value (.bool false)) w := by
    obtain ⟨dst, op, type, pos, after, guard⟩ := o
    simp only at ho
    subst ho
    simp only [execOp, Sem.run_bind, Sem.run_pure, hx, hy, run_eqGuard_agg w .neq 28 _ _ _ _ Tryd.ndGuard, Result.andThen_ok, run_neq_struct, eqND, Bool.not_true]
  unfold Oper.wp
  rw [hrun]
  exact hK _ _ hh
end Go.Proofs.YtijipfciimcnpaaDoor
namespace Go.Proofs.YtijipfciimcnpaaDoor
open Go.RowKit
open I8 (M8)

def whD : List Nat := pnD 1 whX true whM
def whQ : M8 := ⟨6, 135, 0, rsB false false false, whD⟩
theorem wh_pn : pnE 1 6 whX false false false true whM = 0 := by decide
theorem whX_lt (i : Nat) (h : i < 16) : whX i < 256 := by
  have : i = 0 ∨ i = 1 ∨ i = 2 ∨ i = 3 ∨ i = 4 ∨ i = 5 ∨ i = 6 ∨ i = 7 ∨ i = 8 ∨ i = 9 ∨ i = 10 ∨ i = 11 ∨ i = 12 ∨ i = 13 ∨ i = 14 ∨ i = 15 := by omega
  rcases this with rfl | rfl | rfl | rfl | rfl | rfl | rfl | rfl | rfl | rfl | rfl | rfl | rfl | rfl | rfl | rfl <;> decide
theorem whM_lt (i : Nat) (h : i < 6) : whM i < 256 := by
  have : i = 0 ∨ i = 1 ∨ i = 2 ∨ i = 3 ∨ i = 4 ∨ i = 5 := by omega
  rcases this with rfl | rfl | rfl | rfl | rfl | rfl <;> decide
theorem wh_pd : I8.chk whQ = 0 ∧ pdE whQ = 0 ∧ pdC whQ = whN := put_parse_1 6 whX false false false true whM wh_pn
theorem ipL_lt (x : Nat → Nat) (n : Nat) (h : ∀ i, i < n → x i < 256) : ∀ z ∈ ipL x n, z < 256 := by
  intro z hz
  obtain ⟨i, hi, rfl⟩ := List.mem_map.1 hz
  exact h i (List.mem_range.1 hi)
theorem pnD_lt (l : Nat) (hl : l < 256) (x : Nat → Nat) (h : Bool) (m : Nat → Nat) (hx : ∀ i, i < 16 → x i < 256) (hm : ∀ i, i < 6 → m i < 256) : ∀ z ∈ pnD l x h m, z < 256 := by
  intro z hz
  unfold pnD at hz
  rcases List.mem_append.1 hz with hz | hz
  · exact ipL_lt x 16 hx z hz
  · cases h
    · simp at hz
    · simp only [if_true] at hz
      rcases List.mem_append.1 hz with hz | hz
      · simp at hz; omega
      · obtain ⟨i, hi, rfl⟩ := List.mem_map.1 hz
        exact hm i (List.mem_range.1 hi)
theorem put_ok {w' : World} {b : Nat} {M : M8} {g : Nat} (h : w'.ownsRow b 5 1 (.slice (some ⟨g, 0, none⟩) M.d.length M.d.length) M.d.length ((toI M.d).map (Value.int .u8))) (h256 : ∀ z ∈ M.d, z < 256) (hl : M.d.length ≤ 24) : MOk w' M (some ⟨g, 0, none⟩) M.d.length M.d.length := by
  obtain ⟨h1, h2, h3⟩ := owns_seg_at h
  exact ⟨rfl, h1, h256, Nat.le_refl _, h3, by omega⟩
end Go.Proofs.YtijipfciimcnpaaDoor
namespace Go.Proofs.YtijipfciimcnpaaDoor
open Go.RowKit
open I8 (M8)

theorem wh_len : whD.length = 24 := pnD_len 1 whX true whM
set_option maxHeartbeats 3200000 in
set_option maxRecDepth 100000 in
theorem neigh_any (w : World) (hd : Dis8 w) (hs : Spe8 w) : Calls Tryd.prog 8 #[] w fun e w' => e = .returned (.bool true) ∧ Below w.heap.size w w' := by
  have HD : Hid (Dis8 w) := hd
  have HS : Hid (Spe8 w) := hs
  clear hd hs
  go_enter Tryd.func8, Tryd.ntmps8
  go_wp2_with fail
  refine Calls.mono (whom_any w) ?_
  rintro e w1 ⟨rfl, bel1⟩
  have HD1 : Hid (Dis8 w1) := HD.out.old bel1
  have HS1 : Hid (Spe8 w1) := HS.out.old bel1
  obtain ⟨WN, hWN⟩ : ∃ WN, WN = whN := ⟨_, rfl⟩
  have QP : Hid _ := putND_1 6 whX false false false true whM w1 whX_lt whM_lt HD1.out HS1.out
  rw [show ndC 1 6 whX false false false true whM = WN from hWN.symm] at QP
  rw [← hWN]
  have HWN : Hid (WN = whN) := hWN
  clear hWN
  go_wp2_with fail
  refine Calls.mono QP.out ?_
  rintro e w2 ⟨hres, hb2⟩
  rcases hres with ⟨hne, _⟩ | ⟨_, g, rfl, how⟩
  · exact absurd wh_pn hne
  have bel2 := bthen bel1 hb2
  have HD2 : Hid (Dis8 w2) := HD1.out.old hb2
  have HS2 : Hid (Spe8 w2) := HS1.out.old hb2
  have hok2 : MOk w2 whQ (some ⟨g, 0, none⟩) 24 24 := by
    have h := put_ok (M := whQ) how (pnD_lt 1 (by decide) whX true whM whX_lt whM_lt) (by show whD.length ≤ 24; rw [wh_len]; exact Nat.le_refl _)
    rw [show whQ.d.length = 24 from wh_len] at h
    exact h
  have ewl : (pnD 1 whX true whM).length = 24 := wh_len
  rw [ewl]
  obtain ⟨QQ, hQQ⟩ : ∃ QQ : M8, QQ = whQ := ⟨_, rfl⟩
  have hQ' : (⟨6, 135, 0, rsB false false false, pnD 1 whX true whM⟩ : M8) = QQ := hQQ.symm
  rw [hQ']
  rw [← hQQ] at hok2
  have HQQ : Hid (QQ = whQ) := hQQ
  obtain ⟨wM, hwM⟩ : ∃ wM, wM = w2.alloc (.cells (mC m8z none 0 0) 31) := ⟨_, rfl⟩
  obtain ⟨O, hO⟩ : ∃ O, O = w2.heap.size := ⟨_, rfl⟩
  have hbM : Below w2.heap.size w2 wM := by rw [hwM]; exact (Below.refl _ _).alloc (Nat.le_refl _) _
  have HMM : Hid (MAt wM O m8z none 0 0) := by rw [hwM, hO]; exact mAt_new _ _ _ _ _
  have HWM : Hid (w2.alloc (.cells (mC m8z none 0 0) 31) = wM) := hwM.symm
  have HO : Hid (w2.heap.size = O) := hO.symm
  have HOW : Hid (w.heap.size ≤ O) := by rw [hO]; exact bel2.size
  have HDM : Hid (Dis8 wM ∧ Spe8 wM) := ⟨HD2.out.old hbM, HS2.out.old hbM⟩
  have HGL : Hid (1 < O ∧ 3 < O ∧ g < O) := by
    rw [hO]
    refine ⟨HD2.out.lt, HS2.out.lt, ?_⟩
    exact (how.lt g rfl).2
  have HOKM : Hid (Seg .u8 w2 (some ⟨g, 0, none⟩) (toI QQ.d)) := hok2.seg
  have HOK2 : Hid (MOk w2 QQ (some ⟨g, 0, none⟩) 24 24) := hok2
  have belM := bthen bel2 hbM
  clear hQ' hQQ hwM hO hbM QP hb2 how hok2 ewl bel1 bel2 HD HS HD1 HS1 HD2 HS2
  go_upto_region 2 with (first | (refine wpList_alloc_m8 rfl rfl ?_; rw [HWM.out, HO.out]) | (refine wpList_store_m8 (.tmp 1) (.tmp 8) rfl rfl O m8z QQ none (some ⟨g, 0, none⟩) 0 0 24 24 rfl rfl HMM.out rfl ?_))
  intro w3 hR3 k3
  have hne3 : ∀ q, q < O → ¬ (fun z => z = O) q := fun q h e => by have e' : q = O := e; omega
  have b3 := ch_below k3 HMM.out.lt
  have hsM : Seg .u8 wM (some ⟨g, 0, none⟩) (toI QQ.d) := by rw [← HWM.out]; exact HOKM.out.old ((Below.refl _ _).alloc (Nat.le_refl _) _)
  have hs3 : Seg .u8 w3 (some ⟨g, 0, none⟩) (toI QQ.d) := hsM.below (.inr ⟨g, 0, rfl, HGL.out.2.2⟩) b3
  have hok3 : MOk w3 QQ (some ⟨g, 0, none⟩) 24 24 := ⟨HOK2.out.dl, hs3, HOK2.out.d256, HOK2.out.cap, HOK2.out.top, HOK2.out.sm⟩
  have HD3 : Hid (Dis8 w3) := HDM.out.1.ch k3 (hne3 _ HGL.out.1)
  have HS3 : Hid (Spe8 w3) := HDM.out.2.ch k3 (hne3 _ HGL.out.2.1)
  have HM3 : Hid (MAt w3 O QQ (some ⟨g, 0, none⟩) 24 24) := hR3
  have bel3 : Below w.heap.size w w3 := belM.trans (b3.mono HOW.out)
  have QD : Hid _ := parseND_any QQ (some ⟨g, 0, none⟩) 24 24 w3 hok3 HD3.out HS3.out
  rw [show pdE QQ = 0 by rw [HQQ.out]; exact wh_pd.2.1, show pdC QQ = whN by rw [HQQ.out]; exact wh_pd.2.2, ← HWN.out] at QD
  clear hne3 b3 hsM hs3 hok3 k3 hR3 HMM HDM HGL belM HOKM HOK2
  go_wp2_with (first | (refine wpList_load_m8 (.tmp 1) rfl O QQ (some ⟨g, 0, none⟩) 24 24 rfl HM3.out rfl ?_))
  refine Calls.mono QD.out ?_
  rintro e w4 ⟨rfl, hb4⟩
  have HM4 : Hid (MAt w4 O QQ (some ⟨g, 0, none⟩) 24 24) := HM3.out.below hb4
  have bel4 := bthen bel3 hb4
  obtain ⟨wN, hwN⟩ : ∃ wN, wN = w4.alloc (.cells ndZ 28) := ⟨_, rfl⟩
  obtain ⟨P, hP⟩ : ∃ P, P = w4.heap.size := ⟨_, rfl⟩
  have hbN : Below w4.heap.size w4 wN := by rw [hwN]; exact (Below.refl _ _).alloc (Nat.le_refl _) _
  have HNN : Hid (NdAt wN P ndZ) := by rw [hwN, hP]; exact ndAt_new _ _
  have HWNN : Hid (w4.alloc (.cells ndZ 28) = wN) := hwN.symm
  have HP : Hid (w4.heap.size = P) := hP.symm
  have HPO : Hid (O < P ∧ w.heap.size ≤ P) := by rw [hP]; exact ⟨HM4.out.lt, bel4.size⟩
  have HMN : Hid (MAt wN O QQ (some ⟨g, 0, none⟩) 24 24) := HM4.out.below hbN
  have belN := bthen bel4 hbN
  have HWS : Hid (WN.size = 28 ∧ WN.all (·.oneCell') = true) := by rw [HWN.out]; exact ⟨rfl, ndC_one _ _ _ _ _ _ _ _⟩
  clear hwN hP hbN QD HM3 HD3 HS3 bel3 hb4 HM4 bel4
  go_upto_region 3 with (first | (refine wpList_alloc_nd rfl rfl ?_; rw [HWNN.out, HP.out]) | (refine wpList_store_nd (.tmp 3) (.tmp 13) rfl rfl P ndZ WN ndZ_size HWS.out.1 HWS.out.2 rfl rfl HNN.out rfl ?_))
  intro w5 hR5 k5
  have b5 := ch_below k5 HNN.out.lt
  have HN5 : Hid (NdAt w5 P WN) := hR5
  have HM5 : Hid (MAt w5 O QQ (some ⟨g, 0, none⟩) 24 24) := HMN.out.ch k5 (fun e => by have e' : O = P := e; have := HPO.out; omega)
  have bel5 : Below w.heap.size w w5 := belN.trans (b5.mono HPO.out.2)
  have HQV : Hid (QQ.v = 6 ∧ QQ.t = 135) := by rw [HQQ.out]; exact ⟨rfl, rfl⟩
  clear b5 hR5 k5 HNN HMN belN
  go_upto_region 3 with fail
  refine MixH.start (fun A => Below w5.heap.size w5 A) (by kernel_rfl) ?_
  obtain ⟨wA, hwA⟩ : ∃ wA, wA = w5.drew := ⟨_, rfl⟩
  have hS : Below w5.heap.size w5 wA := by rw [hwA]; exact (Below.refl _ _).drew
  rw [← hwA]
  clear hwA
  refine MixH.takes [true, true, true] 25 (by kernel_rfl) (by kernel_rfl) (by decide) (by kernel_rfl) hS (fun K hK => ?_)
  simp only [Mix.pick]
  repeat (go_big_quiet_step (fail))
  refine wpQuiet_nil (hK _ ?_)
  clear hK K
  refine MixH.takes [false, false, false, true, true] 23 (by kernel_rfl) (by kernel_rfl) (by decide) (by kernel_rfl) hS (fun K hK => ?_)
  simp only [Mix.pick]
  repeat (go_big_quiet_step (fail))
  refine wpQuiet_nil (hK _ ?_)
  clear hK K
  refine MixH.takes [false, false, false, false, false, true, true] 21 (by kernel_rfl) (by kernel_rfl) (by decide) (by kernel_rfl) hS (fun K hK => ?_)
  simp only [Mix.pick]
  repeat (go_big_quiet_step (fail))
  refine wpQuiet_nil (hK _ ?_)
  clear hK K
  refine MixH.take 20 7 _ (.agg WN.toList.toArray) rfl (by kernel_rfl) (by kernel_rfl) (by kernel_rfl) (by kernel_rfl) (yieldsIf_load_mid rfl 28 (.tmp 3) rfl P 0 rfl WN.toList _ (fun A hA j v hv => by rw [Nat.zero_add, (HN5.out.below hA).cell, ← Array.getElem?_toList]; exact hv) Tryd.underlying28 rfl (by rw [Array.length_toList, HWS.out.1]; exact Tryd.sizeNd)) hS (fun a' ha => ?_)
  simp only [Act.put, List.setIfInBounds_toArray, List.set_cons_succ, List.set_cons_zero] at ha
  subst ha
  refine MixH.one [false, false, false, false, false, false, false, false, true] 19 8 _ rfl rfl (by kernel_rfl) (by kernel_rfl) (fun K hK => ?_)
  simp only [Mix.pick]
  go_wp2_with fail
  refine Calls.mono (whom_any wA) ?_
  rintro e w6 ⟨rfl, hb6⟩
  have hS6 : Below w5.heap.size w5 w6 := hS.trans (hb6.mono hS.size)
  clear hS hb6
  go_wp2
  refine ⟨rfl, hK _ _ hS6 ?_⟩
  clear hK K
  refine MixH.take 18 9 _ (.bool true) rfl (by kernel_rfl) (by kernel_rfl) (by kernel_rfl) (by kernel_rfl) (yields_eql_nd (.tmp 22) (.tmp 23) rfl 1 6 whX false false false true whM (by show Value.agg WN.toList.toArray = _; rw [HWN.out]; rfl) rfl rfl) hS6 (fun a' ha => ?_)
  simp only [Act.put, List.setIfInBounds_toArray, List.set_cons_succ, List.set_cons_zero] at ha
  subst ha
  refine MixH.takes [false, false, false, false, false, false, false, false, false, false, true, true, true] 15 (by kernel_rfl) (by kernel_rfl) (by decide) (by kernel_rfl) hS6 (fun K hK => ?_)
  simp only [Mix.pick]
  repeat (go_big_quiet_step (fail))
  refine wpQuiet_nil (hK _ ?_)
  clear hK K
  refine MixH.take 14 13 _ (.slice (some ⟨g, 0, none⟩) 24 24) rfl (by kernel_rfl) (by kernel_rfl) (by kernel_rfl) (by kernel_rfl) (yields_bytes (.tmp 27) rfl ⟨O, 4, none⟩ _ rfl rfl (fun A hA => (HM5.out.below hA).c4)) hS6 (fun a' ha => ?_)
  simp only [Act.put, List.setIfInBounds_toArray, List.set_cons_succ, List.set_cons_zero] at ha
  subst ha
  refine MixH.takes [false, false, false, false, false, false, false, false, false, false, false, false, false, false, true, true, true, true, true] 9 (by kernel_rfl) (by kernel_rfl) (by decide) (by kernel_rfl) hS6 (fun K hK => ?_)
  simp only [Mix.pick]
  repeat (go_big_quiet_step (fail))
  refine wpQuiet_nil (hK _ ?_)
  clear hK K
  refine MixH.take 8 19 _ (.int .i64 135) rfl (by kernel_rfl) (by kernel_rfl) (by kernel_rfl) (by kernel_rfl) (yields_int (.tmp 33) rfl ⟨O, 1, none⟩ _ rfl rfl (fun A hA => by rw [(HM5.out.below hA).c1, HQV.out.2])) hS6 (fun a' ha => ?_)
  simp only [Act.put, List.setIfInBounds_toArray, List.set_cons_succ, List.set_cons_zero] at ha
  subst ha
  refine MixH.takes [false, false, false, false, false, false, false, false, false, false, false, false, false, false, false, false, false, false, false, false, true, true, true, true] 4 (by kernel_rfl) (by kernel_rfl) (by decide) (by kernel_rfl) hS6 (fun K hK => ?_)
  simp only [Mix.pick]
  repeat (go_big_quiet_step (fail))
  refine wpQuiet_nil (hK _ ?_)
  clear hK K
  refine MixH.take 3 24 _ (.int .i64 6) rfl (by kernel_rfl) (by kernel_rfl) (by kernel_rfl) (by kernel_rfl) (yields_int (.tmp 38) rfl ⟨O, 0, none⟩ _ rfl rfl (fun A hA => by rw [(HM5.out.below hA).c0, HQV.out.1])) hS6 (fun a' ha => ?_)
  simp only [Act.put, List.setIfInBounds_toArray, List.set_cons_succ, List.set_cons_zero] at ha
  subst ha
  refine MixH.takes [false, false, false, false, false, false, false, false, false, false, false, false, false, false, false, false, false, false, false, false, false, false, false, false, false, true, true, true] 0 (by kernel_rfl) (by kernel_rfl) (by decide) (by kernel_rfl) hS6 (fun K hK => ?_)
  simp only [Mix.pick]
  repeat (go_big_quiet_step (fail))
  refine wpQuiet_nil (hK _ ?_)
  clear hK K
  refine MixH.done (by kernel_rfl) ?_
  have bel6 := bthen bel5 hS6
  go_wp2
  go_ret
  exact ⟨rfl, bel6⟩
end Go.Proofs.YtijipfciimcnpaaDoor
namespace Go.Proofs.YtijipfciimcnpaaDoor
open Go.RowKit
open I8 (M8)

/-- PutND in one form -/
theorem putND_u (k V : Int) (x : Nat → Nat) (r s o h : Bool) (m : Nat → Nat) (w : World) (hx : ∀ i, i < 16 → x i < 256) (hm : ∀ i, i < 6 → m i < 256) (hd : Dis8 w) (hs : Spe8 w) :
    Calls Tryd.prog 9 #[.agg (ndC k V x r s o h m)] w fun e w' => Below w.heap.size w w' ∧ ∃ (er : Int) (M : M8) (da : Option Addr) (l : Nat), e = .returned (.tuple #[.agg (mC M da l l), .int .i64 er]) ∧ (er = 0 → MOk w' M da l l ∧ pdE M = 0 ∧ pdC M = ndC k V x r s o h m ∧ I8.chk M = 0) ∧ ((k = 1 ∨ k = 2) ∧ pnE k V x r s o h m = 0 → er = 0) := by
  cases hk : isK k
  · refine (putND_none k V x r s o h m w hx hm hd hs hk).mono ?_
    rintro e w' ⟨rfl, hb⟩
    refine ⟨hb, 1, m8z, none, 0, rfl, fun e => absurd e (by decide), fun e => ?_⟩
    have : isK k = true := by simp [isK, e.1]
    rw [hk] at this; cases this
  · have h' : k = 1 ∨ k = 2 := by simpa [isK] using hk
    rcases h' with rfl | rfl
    · refine (putND_1 V x r s o h m w hx hm hd hs).mono ?_
      rintro e w' ⟨hr, hb⟩
      rcases hr with ⟨hne, rfl⟩ | ⟨he, g, rfl, how⟩
      · exact ⟨hb, _, m8z, none, 0, rfl, fun e => absurd e hne, fun e => e.2⟩
      · obtain ⟨p1, p2, p3⟩ := put_parse_1 V x r s o h m he
        exact ⟨hb, 0, ⟨6, 135, 0, rsB r s o, pnD 1 x h m⟩, _, _, rfl, fun _ => ⟨put_ok (M := ⟨6, 135, 0, rsB r s o, pnD 1 x h m⟩) how (pnD_lt 1 (by decide) x h m hx hm) (by show (pnD 1 x h m).length ≤ 24; rw [pnD_len]; cases h <;> decide), p2, p3, p1⟩, fun _ => rfl⟩
    · refine (putND_2 V x r s o h m w hx hm hd hs).mono ?_
      rintro e w' ⟨hr, hb⟩
      rcases hr with ⟨hne, rfl⟩ | ⟨he, g, rfl, how⟩
      · exact ⟨hb, _, m8z, none, 0, rfl, fun e => absurd e hne, fun e => e.2⟩
      · obtain ⟨p1, p2, p3⟩ := put_parse_2 V x r s o h m he
        exact ⟨hb, 0, ⟨6, 136, 0, rsB r s o, pnD 2 x h m⟩, _, _, rfl, fun _ => ⟨put_ok (M := ⟨6, 136, 0, rsB r s o, pnD 2 x h m⟩) how (pnD_lt 2 (by decide) x h m hx hm) (by show (pnD 2 x h m).length ≤ 24; rw [pnD_len]; cases h <;> decide), p2, p3, p1⟩, fun _ => rfl⟩
/-- what a world keeps for the walk -/
structure NbS (w0 w : World) (B : Nat) (m : M8) (da : Option Addr) (n c : Nat) : Prop where
  dis : Dis8 w
  spe : Spe8 w
  mat : MAt w (B + 1) m da n c
  ok : MOk w m da n c
  bel : Below w0.heap.size w0 w
theorem NbS.old {w0 w w' : World} {B : Nat} {m : M8} {da : Option Addr} {n c : Nat} (h : NbS w0 w B m da n c) (hb : Below w.heap.size w w') : NbS w0 w' B m da n c := ⟨h.dis.old hb, h.spe.old hb, h.mat.below hb, h.ok.old hb, bthen h.bel hb⟩
theorem seg_ne_m8 {w : World} {O : Nat} {m : M8} {da : Option Addr} {n c : Nat} {va : Option Addr} {l : List Int} (h : MAt w O m da n c) (hs : Seg .u8 w va l) (z : Addr) (hl : l ≠ []) (hz : va = some z) : z.block ≠ O := by
  rcases hs with h0 | ⟨b, off, e, hc⟩
  · exact absurd h0 hl
  · rw [hz] at e
    have e' := Option.some.inj e
    subst e'
    intro hO
    have hO' : b = O := hO
    subst hO'
    have h1 := hc 0 (List.length_pos_iff.2 hl)
    rw [h.cell] at h1
    simp only [mC, Nat.add_zero] at h1
    match off, h1 with
    | 0, h1 => simp at h1
    | 1, h1 => simp at h1
    | 2, h1 => simp at h1
    | 3, h1 => simp at h1
    | 4, h1 => simp at h1
    | o + 5, h1 => simp at h1
theorem below_put {w w' : World} {X : Nat} {o : Obj} (hX : X = w.heap.size) (k : Ch (fun q => q = X) (w.alloc o) w') : Below w.heap.size w w' :=
  ((Below.refl _ _).alloc (Nat.le_refl _) o).trans (k.below (fun q e => by have e' : q = X := e; omega) (by simp))
theorem pdC_form (m : M8) : (pdC m).size = 28 ∧ (pdC m).all (·.oneCell') = true := by
  unfold pdC
  split
  · exact ⟨rfl, ndC_one _ _ _ _ _ _ _ _⟩
  · exact ⟨rfl, ndC_one _ _ _ _ _ _ _ _⟩
end Go.Proofs.YtijipfciimcnpaaDoor
