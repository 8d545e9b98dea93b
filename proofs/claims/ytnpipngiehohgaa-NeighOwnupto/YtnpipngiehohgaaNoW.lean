/-
  Layer 15 (NeighOwn): Book.stands: all lists hold their marks.
-/
import Derived.Test.YtnpipngiehohgaaNoB
namespace Go.Proofs.Ytnpipngiehohgaa
open Go.RowKit Go.Maps
namespace No

def SW (a b : World) : Prop := a = b
theorem SW.eq {a b : World} (h : SW a b) : a = b := h
theorem SW.rf (a : World) : SW a a := rfl
theorem hdr_at {w : World} {T : TypeId} {ba : Option Addr} {N bc i : Nat} {X : List (Value × Nat)} (h : w.ownsRow 0 T 1 (.slice ba N bc) N (X.map (fun r => r.1))) (hl : X.length = N) (hi : i < N) : ∃ q r, ba = some ⟨q, 0, none⟩ ∧ X[i]? = some r ∧ w.cell? ⟨q, i, none⟩ = some r.1 := by
  obtain ⟨r, hr⟩ : ∃ r, X[i]? = some r := ⟨_, List.getElem?_eq_getElem (by omega)⟩
  rcases h.2 with ⟨_, e2⟩ | ⟨q, cap, cur, e1, _⟩
  · omega
  · simp only [Value.slice.injEq, true_and] at e1
    obtain ⟨rfl, rfl⟩ := e1
    refine ⟨q, r, rfl, hr, ?_⟩
    rw [h.cellAt i (by omega), List.getElem?_map, hr]
    rfl
theorem row_at {w : World} {e : TypeId} {K : Nat} {m : Int} {r : Value × Nat} (hK : 0 < K) (h : RwOk w e K m r) : ∃ ga c, r.1 = .slice ga r.2 c ∧ r.2 ≤ 9223372036854775807 ∧ ∀ k, k < r.2 → ∃ g, ga = some ⟨g, 0, none⟩ ∧ w.cell? ⟨g, k * K, none⟩ = some (.int .i64 m) := by
  obtain ⟨xs, h1, h2⟩ := h
  obtain ⟨ga, c, hv⟩ := owns_shape h1
  refine ⟨ga, c, hv, ?_, fun k hk => ?_⟩
  · rcases h1.2 with ⟨_, e2⟩ | ⟨q, cap, cur, _, _, _, e4, e5, _⟩
    · omega
    · unfold maxLen at e5; omega
  · rw [hv] at h1
    rcases h1.2 with ⟨_, e2⟩ | ⟨q, cap, cur, e1, _⟩
    · omega
    · simp only [Value.slice.injEq, true_and] at e1
      obtain ⟨rfl, rfl⟩ := e1
      refine ⟨q, rfl, ?_⟩
      rw [h1.cellAt (k * K) (Nat.mul_lt_mul_of_pos_right hk hK)]
      exact h2 k hk
theorem wrap64_of {x : Int} (h : -9223372036854775808 ≤ x) (h2 : x ≤ 9223372036854775807) : wrap64 x = x := by unfold wrap64; omega
set_option maxHeartbeats 12800000 in
set_option maxRecDepth 100000 in
theorem stands_any (w : World) (BK : Nat) (b : BV) (h : BkM w BK b) (hl : b.N.length = b.I.length ∧ b.A.length = b.I.length) (hL : b.I.length ≤ 100000) :
    Calls Try.prog 31 #[.pointer (some ⟨BK, 0, none⟩)] w fun r w' => r = .returned (.bool true) ∧ w = w' := by
  obtain ⟨L, hLL⟩ : ∃ L, b.I.length = L := ⟨_, rfl⟩
  obtain ⟨aI, kI, hI⟩ := owns_shape h.oI
  obtain ⟨aN, kN, hN⟩ := owns_shape h.oN
  obtain ⟨aA, kA, hA⟩ := owns_shape h.oA
  rw [hLL] at hI
  rw [hl.1, hLL] at hN
  rw [hl.2, hLL] at hA
  have c0 := h.c0
  have c1 := h.c1
  have c2 := h.c2
  rw [hI] at c0
  rw [hN] at c1
  rw [hA] at c2
  have H : Hid (BkM w BK b ∧ (b.I.length = L ∧ b.N.length = L ∧ b.A.length = L) ∧ L ≤ 100000 ∧ w.ownsRow 0 39 1 (.slice aI L kI) L (b.I.map (fun r => r.1)) ∧ w.ownsRow 0 45 1 (.slice aN L kN) L (b.N.map (fun r => r.1)) ∧ w.ownsRow 0 42 1 (.slice aA L kA) L (b.A.map (fun r => r.1))) := ⟨h, ⟨hLL, hl.1.trans hLL, hl.2.trans hLL⟩, by omega, by have := h.oI; rwa [hI, hLL] at this, by have := h.oN; rwa [hN, hl.1, hLL] at this, by have := h.oA; rwa [hA, hl.2, hLL] at this⟩
  have hLb : L ≤ 100000 := by omega
  clear h hl hL hI hN hA hLL
  go_enter Try.func31, Try.ntmps31
  go_wp2
  go_loopw [3] (fun ix wr => ∃ i : Nat, i ≤ L ∧ ix = .int .i64 (i : Int) ∧ SW w wr) (fun ix _ => L - (intOf ix).toNat)
  case atStart => exact ⟨0, Nat.zero_le _, rfl, SW.rf w⟩
  case round =>
    obtain ⟨i, hi0, rfl, HWE⟩ := hrel
    obtain rfl := HWE.eq
    clear HWE
    by_cases hge : L ≤ i
    · obtain rfl : L = i := by omega
      have d0 : ¬ (L : Int) < (L : Int) := by omega
      clear hge hi0
      go_wp2
      go_ret
      exact ⟨rfl, rfl⟩
    · have d0 : (i : Int) < (L : Int) := by omega
      have hi : i + 1 ≤ L := by omega
      have HLI : Hid (i < L) := hi
      clear hge hi0
      obtain ⟨qI, rI, eI, erI, ceI⟩ := hdr_at H.out.2.2.2.1 H.out.2.1.1 HLI.out
      obtain ⟨gI, cI, evI, hnI, hcI⟩ := row_at (by decide) (H.out.1.eI i rI erI)
      obtain ⟨nI, henI⟩ : ∃ n, rI.2 = n := ⟨_, rfl⟩
      rw [henI] at evI hnI hcI
      rw [evI] at ceI
      subst eI
      have HCI : Hid (∀ k, k < nI → ∃ g, gI = some ⟨g, 0, none⟩ ∧ w.cell? ⟨g, k * 1, none⟩ = some (.int .i64 (pm i))) := hcI
      clear erI evI hcI henI
      obtain ⟨qN, rN, eN, erN, ceN⟩ := hdr_at H.out.2.2.2.2.1 H.out.2.1.2.1 HLI.out
      obtain ⟨gN, cN, evN, hnN, hcN⟩ := row_at (by decide) (H.out.1.eN i rN erN)
      obtain ⟨nN, henN⟩ : ∃ n, rN.2 = n := ⟨_, rfl⟩
      rw [henN] at evN hnN hcN
      rw [evN] at ceN
      subst eN
      have HCN : Hid (∀ k, k < nN → ∃ g, gN = some ⟨g, 0, none⟩ ∧ w.cell? ⟨g, k * 28, none⟩ = some (.int .i64 (pm i))) := hcN
      clear erN evN hcN henN
      obtain ⟨qA, rA, eA, erA, ceA⟩ := hdr_at H.out.2.2.2.2.2 H.out.2.1.2.2 HLI.out
      obtain ⟨gA, cA, evA, hnA, hcA⟩ := row_at (by decide) (H.out.1.eA i rA erA)
      obtain ⟨nA, henA⟩ : ∃ n, rA.2 = n := ⟨_, rfl⟩
      rw [henA] at evA hnA hcA
      rw [evA] at ceA
      subst eA
      have HCA : Hid (∀ k, k < nA → ∃ g, gA = some ⟨g, 0, none⟩ ∧ w.cell? ⟨g, k * 25, none⟩ = some (.int .i64 (pm i))) := hcA
      clear erA evA hcA henA
      have hm : pm i = -100 - (i : Int) / 3 * 3 := by unfold pm; omega
      rw [hm] at HCI HCN HCA
      clear hm
      go_upto_region 5 with fail
      go_wp2
      go_loopw [5] (fun kx wr => ∃ k : Nat, k ≤ nI ∧ kx = .int .i64 (k : Int) ∧ SW w wr) (fun kx _ => nI - (intOf kx).toNat)
      case atStart => exact ⟨0, Nat.zero_le _, rfl, SW.rf w⟩
      case round =>
        obtain ⟨kI, hk, rfl, HWE⟩ := hrel
        obtain rfl := HWE.eq
        clear HWE
        by_cases hge : nI ≤ kI
        · obtain rfl : nI = kI := by omega
          have d1 : ¬ (nI : Int) < (nI : Int) := by omega
          clear hge hk
          go_wp2
          go_loopw [6] (fun kx wr => ∃ k : Nat, k ≤ nN ∧ kx = .int .i64 (k : Int) ∧ SW w wr) (fun kx _ => nN - (intOf kx).toNat)
          case atStart => exact ⟨0, Nat.zero_le _, rfl, SW.rf w⟩
          case round =>
            obtain ⟨kN, hk, rfl, HWE⟩ := hrel
            obtain rfl := HWE.eq
            clear HWE
            by_cases hge : nN ≤ kN
            · obtain rfl : nN = kN := by omega
              have d1 : ¬ (nN : Int) < (nN : Int) := by omega
              clear hge hk
              go_wp2
              go_loopw [7] (fun kx wr => ∃ k : Nat, k ≤ nA ∧ kx = .int .i64 (k : Int) ∧ SW w wr) (fun kx _ => nA - (intOf kx).toNat)
              case atStart => exact ⟨0, Nat.zero_le _, rfl, SW.rf w⟩
              case round =>
                obtain ⟨kA, hk, rfl, HWE⟩ := hrel
                obtain rfl := HWE.eq
                clear HWE
                by_cases hge : nA ≤ kA
                · obtain rfl : nA = kA := by omega
                  have d1 : ¬ (nA : Int) < (nA : Int) := by omega
                  clear hge hk
                  go_wp2
                  go_roundw
                  case rel => exact ⟨i + 1, hi, by go_num, SW.rf w⟩
                  case measure => have := HLI.out; simp [intOf]; omega
                · have d1 : (kA : Int) < (nA : Int) := by omega
                  have hkn : kA < nA := by omega
                  obtain ⟨g, hga, hcc⟩ := HCA.out kA hkn
                  subst hga
                  skip
                  have hq : ((-100 - (i : Int) / 3 * 3) != (-100 - (i : Int) / 3 * 3)) = false := by simp
                  clear hge hk
                  go_wp2
                  go_roundw
                  case rel => exact ⟨kA + 1, hkn, by go_num, SW.rf w⟩
                  case measure => simp [intOf]; omega
            · have d1 : (kN : Int) < (nN : Int) := by omega
              have hkn : kN < nN := by omega
              obtain ⟨g, hga, hcc⟩ := HCN.out kN hkn
              subst hga
              skip
              have hq : ((-100 - (i : Int) / 3 * 3) != (-100 - (i : Int) / 3 * 3)) = false := by simp
              clear hge hk
              go_wp2
              go_roundw
              case rel => exact ⟨kN + 1, hkn, by go_num, SW.rf w⟩
              case measure => simp [intOf]; omega
        · have d1 : (kI : Int) < (nI : Int) := by omega
          have hkn : kI < nI := by omega
          obtain ⟨g, hga, hcc⟩ := HCI.out kI hkn
          subst hga
          rw [Nat.mul_one] at hcc
          have hq : ((-100 - (i : Int) / 3 * 3) != (-100 - (i : Int) / 3 * 3)) = false := by simp
          clear hge hk
          go_wp2
          go_roundw
          case rel => exact ⟨kI + 1, hkn, by go_num, SW.rf w⟩
          case measure => simp [intOf]; omega
end No
end Go.Proofs.Ytnpipngiehohgaa
