/-
  Layer 20, captures: the harness' numbered; a frame that bears a number alone.
-/
import Derived.Test.YtpdfepnifjolkaaDCE
import Derived.Test.YtpdfepnifjolkaaDCO
namespace Go.Proofs.Ytpdfepnifjolkaa
open Go.RowKit Go.ChangeShapes Go.WideShapes

def cn (i : Int) : CE := ⟨i, 0, false, [], none, 0⟩
theorem cn_len (i : Int) : (cn i).d.length = 0 := rfl
theorem run_bcn (i : Int) (w : World) : (Instr.build 37 #[(0, .int .i64 i)]).run Try.prog w = .ok (.agg (ceA (cn i))) w := by kernel_rfl
theorem wpList_bcn {ops : Array Oper} {rest : List Oper} {o : Oper} {a_ : Act} {w : World} {Q : Exit → Act → World → Prop} (y0 : Operand) (ho : o.op = .build 37 #[(0, y0)]) (i : Int) (h0 : a_.eval y0 = .int .i64 i) (hw : Region.wanted o (yielded ops a_.tmps) = true)
    (h : wpList Try.prog ops Q rest (a_.put o.dst (.agg (ceA (cn i)))) w) : wpList Try.prog ops Q (o :: rest) a_ w := by
  refine wpList_step fun K hK => ?_
  rw [if_pos hw]
  have hrun : (execOp a_.eval o).run Try.prog w = .ok (.value (.agg (ceA (cn i)))) w := by
    obtain ⟨dst, op, type, pos, after, guard⟩ := o
    simp only at ho
    subst ho
    simp only [execOp, Sem.run_bind, List.map_toArray, List.map_cons, List.map_nil, h0, run_bcn i w, Result.andThen_ok]
    rfl
  unfold Oper.wp
  rw [hrun]
  exact hK _ _ h
theorem xor1_lt (x : Nat) (h : x < 256) : x ^^^ 1 < 256 := Nat.xor_lt_two_pow (n := 8) h (by decide)
theorem xor1 (x : Nat) (h : x < 256) : bits .xor .u8 (x : Int) 1 = ((x ^^^ 1 : Nat) : Int) := u8_xor_nat x 1 h (by decide)
theorem rd_dl (bs : List Nat) (h256 : ∀ x ∈ bs, x < 256) : ∀ (m i : Nat), bs.length - i ≤ m → ∀ c ∈ (rdF bs i).1, c.2.2.2.length ≤ 65535 := by
  intro m
  induction m with
  | zero => intro i hm; rw [rdF_end bs i (by omega)]; simp
  | succ m ih =>
    intro i hm
    by_cases hi : i < bs.length
    · cases hb : badF (bs.drop i) with
      | some p => rw [rdF_bad bs i p hi hb]; simp
      | none =>
        have hfit := bad_fit hb
        rw [List.length_drop] at hfit
        have i3 := ih (i + (8 + szF (bs.drop i))) (by omega)
        rw [rdF, dif_pos hi, hb]
        simp only
        split
        · intro c hc
          rcases List.mem_cons.1 hc with rfl | hc
          · show ((bs.drop i).drop 8 |>.take (szF (bs.drop i))).length ≤ 65535
            have := szF_lt (drop256 h256 i)
            rw [List.length_take]
            omega
          · exact i3 c hc
        · simp
    · rw [rdF_end bs i hi]; simp
theorem rdA_dl (bs : List Nat) (h256 : ∀ x ∈ bs, x < 256) : ∀ c ∈ (rdA bs).1, c.2.2.2.length ≤ 65535 := by
  unfold rdA
  by_cases h : bs.take mg.length = mg
  · rw [if_pos h]; exact rd_dl bs h256 bs.length 8 (by omega)
  · rw [if_neg h]; simp
/-- a frame's row in a list of rows -/
def ceR (c : CE) : RO := ⟨c.a, c.d, c.cap⟩
theorem info_ro : Info 22 1 := info_of (by kernel_rfl)
theorem ceR_v (c : CE) : roV (ceR c) = c.v := rfl
theorem listg3 (w : World) (t : TypeId) (r1 r2 r3 : RO) : ListG 1 roL (fun _ => True) (w.alloc (.cells #[roV r1, roV r2, roV r3] t)) (some ⟨w.heap.size, 0, none⟩) [r1, r2, r3] := by
  refine .inr ⟨_, _, rfl, by rw [World.size_alloc]; omega, fun i o ho => ⟨trivial, fun j hj => ?_⟩⟩
  have hj0 : j = 0 := by omega
  subst hj0
  rw [World.cell?_alloc_at _ _ _ _ rfl]
  have hi := (List.getElem?_eq_some_iff.1 ho).1
  simp only [List.length_cons, List.length_nil] at hi
  match i, hi, ho with
  | 0, _, ho => simp at ho; subst ho; rfl
  | 1, _, ho => simp at ho; subst ho; rfl
  | 2, _, ho => simp at ho; subst ho; rfl
theorem range1 (w : World) (t : TypeId) (r : RO) : (w.alloc (.cells #[roV r] t)).rangeAt w.heap.size 0 (roL r) := fun j u hj => by
  have hj0 : j = 0 := by have := (List.getElem?_eq_some_iff.1 hj).1; rw [roL_len] at this; omega
  subst hj0
  rw [World.cell?_alloc_at _ _ _ _ rfl]
  exact hj
/-- rows that lie in a range of blocks -/
def InR (lo hi : Nat) (r : RO) : Prop := ∀ q, (roV r).ownBlock = some q → lo ≤ q ∧ q < hi
theorem InR.apr {l1 h1 l2 h2 : Nat} {r s : RO} (a : InR l1 h1 r) (b : InR l2 h2 s) (h : h1 ≤ l2 ∨ h2 ≤ l1) : Apr r s := fun q hq he => by
  have := a q hq
  have := b q he
  omega
/-- a list of frames, each of which bears a number alone -/
def Num (w : World) (va : Option Addr) (n f : Nat) : Prop := ∀ i, i < n → ∃ g, va = some ⟨g, 0, none⟩ ∧ w.cell? ⟨g, i * 4, none⟩ = some (.int .i64 ((f + i : Nat) : Int))
theorem GL.num {w : World} {base n vc f : Nat} {va : Option Addr} {L : List CE} (h : GL 4 ceL 37 w base (.slice va n vc) L) (hn : L.length = n) (hL : ∀ (i : Nat) (c : CE), L[i]? = some c → c.tk = ((f + i : Nat) : Int)) : Num w va n f := by
  intro i hi
  obtain ⟨c, hc⟩ : ∃ c, L[i]? = some c := ⟨_, List.getElem?_eq_getElem (by rw [hn]; exact hi)⟩
  obtain ⟨g, cap, hv, _, _, hr⟩ := h.at ceL_len i c hc
  simp only [Value.slice.injEq] at hv
  refine ⟨g, hv.1, ?_⟩
  have h1 := hr 0 (.int .i64 c.tk) rfl
  rw [Nat.add_zero, hL i c hc] at h1
  exact h1
set_option maxHeartbeats 1600000 in
set_option maxRecDepth 100000 in
theorem numbered_any (w : World) (va : Option Addr) (n vc f : Nat) (h : Num w va n f) (hn2 : n ≤ 100000000) (hf : f ≤ 100000000) : Calls Try.prog 14 #[.slice va n vc, .int .i64 (f : Int)] w fun e w' => e = .returned (.bool true) ∧ w = w' := by
  have HS : Hid (Num w va n f) := h
  clear h
  go_enter Try.func14, Try.ntmps14
  go_wp2_with fail
  go_loopw [5] (fun ix wr => ∃ k : Nat, ix = .int .i64 (k : Nat) ∧ k ≤ n ∧ w = wr) (fun ix _ => n - (intOf ix).toNat)
  case atStart => exact ⟨0, rfl, Nat.zero_le _, rfl⟩
  case round =>
    obtain ⟨k, rfl, hk, rfl⟩ := hrel
    by_cases hin : k < n
    · have p1 : decide ((k : Int) < (n : Int)) = true := decide_eq_true (by omega)
      have p2 : decide (k < n) = true := decide_eq_true hin
      have i0 : (0 : Int) ≤ (k : Int) := by omega
      have i1 : (k : Int) < (n : Int) := by omega
      have i2 : ((k : Int)).toNat = k := by omega
      have wk1 : IntKind.i64.wrap ((k : Int) + 1) = (k : Int) + 1 := i64_s _ (by omega) (by omega)
      have wk2 : IntKind.i64.wrap ((f : Int) + (k : Int)) = (f : Int) + (k : Int) := i64_s _ (by omega) (by omega)
      obtain ⟨g, rfl, hc⟩ := HS.out k hin
      have c3 : w.cell? ⟨g, k * 4, none⟩ = some (.int .i64 ((f : Int) + (k : Int))) := by rw [hc]; simp
      clear hc
      go_wp2
      go_roundw
      case rel => exact ⟨k + 1, by go_num, by omega, trivial⟩
      case measure => simp [intOf]; omega
    · have p1 : decide ((k : Int) < (n : Int)) = false := decide_eq_false (by omega)
      have p2 : decide (k < n) = false := decide_eq_false hin
      clear hin
      go_wp2
      go_ret
      exact ⟨rfl, rfl⟩
end Go.Proofs.Ytpdfepnifjolkaa
