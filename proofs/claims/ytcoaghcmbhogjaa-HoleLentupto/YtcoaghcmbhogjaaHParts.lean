/-
  The statements' parts: data cut into pieces.
-/
import Derived.Test.YtcoaghcmbhogjaaHPcP
import Derived.Test.YtcoaghcmbhogjaaHBytes
import Derived.Deep.DeepCutAuto
namespace Go.Proofs.Ytcoaghcmbhogjaa
open Go.RowKit Go.Maps
namespace H11

theorem and7 (n : Int) : bits .and .i64 n 7 = n % 8 := by
  have h127 : (BitVec.ofInt 64 7).toNat = 2 ^ 3 - 1 := by decide
  have key : (BitVec.ofInt 64 n &&& BitVec.ofInt 64 7).toNat = (n % ((2 ^ 64 : Nat) : Int)).toNat % 2 ^ 3 := by
    rw [BitVec.toNat_and, BitVec.toNat_ofInt, h127, Nat.and_two_pow_sub_one_eq_mod]
  show IntKind.i64.wrap ((BitVec.ofInt 64 n &&& BitVec.ofInt 64 7).toNat : Nat) = n % 8
  rw [key, IntKind.wrap_i64]
  omega
theorem and40 (n : Int) : bits .and .i64 n 1099511627775 = n % 1099511627776 := by
  have h127 : (BitVec.ofInt 64 1099511627775).toNat = 2 ^ 40 - 1 := by decide
  have key : (BitVec.ofInt 64 n &&& BitVec.ofInt 64 1099511627775).toNat = (n % ((2 ^ 64 : Nat) : Int)).toNat % 2 ^ 40 := by
    rw [BitVec.toNat_and, BitVec.toNat_ofInt, h127, Nat.and_two_pow_sub_one_eq_mod]
  show IntKind.i64.wrap ((BitVec.ofInt 64 n &&& BitVec.ofInt 64 1099511627775).toNat : Nat) = n % 1099511627776
  rw [key, IntKind.wrap_i64]
  omega

/-- a piece's cells -/
def pc1 (db dof dc N p n : Nat) : List Value := [.int .i64 (p : Int), .slice (some ⟨db, dof + p, none⟩) n (dc - p), .bool (decide (p + n < N))]
def pcC (db dof dc N : Nat) : Nat → List Nat → List Value
  | _, [] => []
  | p, n :: r => pc1 db dof dc N p n ++ pcC db dof dc N (p + n) r
theorem pcC_len (db dof dc N : Nat) : ∀ (ns : List Nat) (p : Nat), (pcC db dof dc N p ns).length = ns.length * 3
  | [], _ => rfl
  | n :: r, p => by simp only [pcC, List.length_append, pcC_len db dof dc N r, pc1, List.length_cons, List.length_nil]; omega
theorem pcC_snoc (db dof dc N n : Nat) : ∀ (ns : List Nat) (p : Nat), pcC db dof dc N p (ns ++ [n]) = pcC db dof dc N p ns ++ pc1 db dof dc N (p + ns.sum) n
  | [], p => by simp [pcC]
  | m :: r, p => by simp only [List.cons_append, pcC, pcC_snoc db dof dc N n r, List.append_assoc, List.sum_cons]; rw [Nat.add_assoc]
theorem pcC_at (db dof dc N : Nat) : ∀ (ns : List Nat) (p k j : Nat), k < ns.length → j < 3 → (pcC db dof dc N p ns)[k * 3 + j]? = (pc1 db dof dc N (p + ofs ns k) (ns.getD k 0))[j]?
  | [], _, k, _, hk, _ => by simp at hk
  | n :: r, p, k, j, hk, hj => by
    cases k with
    | zero =>
      rw [Nat.zero_mul, Nat.zero_add, ofs_zero]
      simp only [pcC, List.getD, List.getElem?_cons_zero, Option.getD_some, Nat.add_zero]
      rw [List.getElem?_append_left (by simpa [pc1] using hj)]
    | succ k =>
      have ih := pcC_at db dof dc N r (p + n) k j (by simpa using hk) hj
      have e1 : ofs (n :: r) (k + 1) = n + ofs r k := by simp [ofs]
      rw [show (k + 1) * 3 + j = 3 + (k * 3 + j) by omega, e1]
      simp only [pcC]
      rw [List.getElem?_append_right (by simp [pc1])]
      rw [show 3 + (k * 3 + j) - (pc1 db dof dc N p n).length = k * 3 + j by simp [pc1], ih]
      rw [show p + n + ofs r k = p + (n + ofs r k) by omega]
      simp [List.getD]

/-- what parts holds on to -/
structure PrS (N m : Nat) (ns : List Nat) : Prop where
  le : ns.sum ≤ N
  pos : ∀ k, k < ns.length → 1 ≤ ns.getD k 0
  m8 : ∀ k, k < ns.length → k + 1 < ns.length ∨ ns.sum < N → ns.getD k 0 % 8 = 0
  cnt : ns.length ≤ m + 1
  fin : m < ns.length → ns.sum = N
theorem PrS.start (N m : Nat) : PrS N m [] := ⟨by simp, by simp, by simp, by simp, by simp⟩
theorem getD_snoc (ns : List Nat) (n k : Nat) (h : k < ns.length + 1) : (ns ++ [n]).getD k 0 = if k < ns.length then ns.getD k 0 else n := by
  simp only [List.getD]
  by_cases c : k < ns.length
  · rw [if_pos c, List.getElem?_append_left c]
  · obtain rfl : k = ns.length := by omega
    rw [if_neg c]
    simp
theorem PrS.snoc {N m : Nat} {ns : List Nat} (h : PrS N m ns) {n : Nat} (hlt : ns.sum < N) (h1 : 1 ≤ n) (h2 : ns.sum + n ≤ N) (h3 : ns.sum + n < N → n % 8 = 0) (h4 : m ≤ ns.length → ns.sum + n = N) : PrS N m (ns ++ [n]) := by
  have hc := h.cnt
  have hf := h.fin
  refine ⟨by simp [h2], ?_, ?_, ?_, ?_⟩
  · intro k hk
    simp only [List.length_append, List.length_cons, List.length_nil] at hk
    rw [getD_snoc ns n k hk]
    split
    · rename_i c; exact h.pos k c
    · exact h1
  · intro k hk hor
    simp only [List.length_append, List.length_cons, List.length_nil] at hk hor
    have hs : (ns ++ [n]).sum = ns.sum + n := by simp
    rw [hs] at hor
    rw [getD_snoc ns n k hk]
    split
    · rename_i c; exact h.m8 k c (.inr hlt)
    · exact h3 (by omega)
  · simp only [List.length_append, List.length_cons, List.length_nil]
    by_cases c : m < ns.length
    · have := hf c; omega
    · omega
  · intro c
    simp only [List.length_append, List.length_cons, List.length_nil] at c
    have hs : (ns ++ [n]).sum = ns.sum + n := by simp
    rw [hs]
    exact h4 (by omega)
theorem PrS.cut {N m : Nat} {ns : List Nat} (h : PrS N m ns) (he : ns.sum = N) : Cut ns N := ⟨he, h.pos, fun k hk => h.m8 k (by omega) (.inl hk)⟩

theorem Try.infoPiece : (Try.prog.info? 37).map (fun i => (i.zero, i.size, i.bytes)) = some (some (.agg #[.int .i64 0, .slice none 0 0, .bool false]), 3, 40) := by kernel_rfl
theorem three_new (w : World) (a b c : Value) : ∀ j u, [a, b, c][j]? = some u → (w.alloc (.cells #[a, b, c] 37)).cell? ((⟨w.heap.size, 0, none⟩ : Addr).add j) = some u := by
  intro j u hj
  rw [Addr.add_lit, Nat.zero_add, World.cell?_alloc_at _ _ _ _ rfl]
  simpa using hj

set_option maxRecDepth 100000 in
set_option maxHeartbeats 6400000 in
theorem parts_any (w : World) (db dof N dc : Nat) (ca : Option Addr) (m cc : Nat) (zs : List Int) (hN : N ≤ 4096) (hNc : N ≤ dc) (hm : zs.length = m) (hm9 : m ≤ 90) (hcs : Seg .i64 w ca zs) :
    Calls Try.prog 11 #[.slice (some ⟨db, dof, none⟩) N dc, .slice ca m cc] w fun r w' => ∃ la lc ns, r = .returned (.slice la ns.length lc) ∧ Cut ns N ∧ ns.length ≤ 91 ∧ w'.ownsRow w.heap.size 37 3 (.slice la ns.length lc) ns.length (pcC db dof dc N 0 ns) ∧ Below w.heap.size w w' := by
  obtain ⟨i0, hi, hz0, hz1, hz2⟩ := info_parts Try.infoPiece
  have HCS : Hid (Seg .i64 w ca zs) := hcs
  have HM : Hid (zs.length = m) := hm
  clear hcs hm
  go_enter Try.func11, Try.ntmps11
  go_wp2
  go_loopw [5, 6, 7] (fun lv av ix wr => ∃ (ns : List Nat) (p i : Nat), av = .int .i64 (p : Int) ∧ ix = .int .i64 (i : Int) ∧ p ≤ N ∧ i ≤ 91 ∧ Hid (p = ns.sum ∧ i = ns.length ∧ PrS N m ns) ∧ Hid (wr.ownsRow w.heap.size 37 3 lv ns.length (pcC db dof dc N 0 ns)) ∧ Below w.heap.size w wr) (fun _ _ ix _ => 92 - (intOf ix).toNat)
  case atStart => exact ⟨[], 0, 0, rfl, rfl, Nat.zero_le _, by omega, ⟨rfl, rfl, PrS.start N m⟩, World.ownsRow_nil _ _ _ _, Below.refl _ _⟩
  case round =>
    obtain ⟨ns, p, i, rfl, rfl, hp, hi9, HP, HO, hb⟩ := hrel
    obtain ⟨la, lc, hle⟩ := owns_shape HO.out
    have HI : Hid (i = ns.length) := HP.out.2.1
    rw [← HI.out] at hle
    subst hle
    by_cases hge : N ≤ p
    · have hpN : p = N := by omega
      have d1 : ¬ (p : Int) < (N : Int) := by omega
      have HCU : Hid (Cut ns N) := HP.out.2.2.cut (by rw [← HP.out.1]; exact hpN)
      have HO' : Hid (wr.ownsRow w.heap.size 37 3 (.slice la i lc) i (pcC db dof dc N 0 ns)) := by have := HO.out; rw [← HI.out] at this; exact this
      clear hge hpN HP HO
      go_wp2
      go_ret
      exact ⟨la, lc, ns, by rw [HI.out]; rfl, HCU.out, by rw [← HI.out]; exact hi9, by have := HO'.out; rw [HI.out] at this; exact this, hb⟩
    · have d1 : (p : Int) < (N : Int) := by omega
      have d2 : (i : Int) < 100 := by omega
      have hi90 : i ≤ m := by
        apply Classical.byContradiction
        intro k
        have h1 := HP.out.2.2.fin (by rw [← HI.out]; omega)
        have h2 := HP.out.1
        omega
      have wn : IntKind.i64.wrap ((N : Int) - (p : Int)) = ((N - p : Nat) : Int) := by rw [IntKind.wrap_i64]; omega
      clear hge
      go_upto_region 7 with fail
      go_cut [28] (fun x wx => x = .bool (decide (i < m)) ∧ wr = wx)
      case first =>
        by_cases hlt : i < m
        · have e1 : (i : Int) < (m : Int) := by omega
          have HD : Hid (decide (i < m) = true) := decide_eq_true hlt
          go_wp2
          go_meet
          exact ⟨by rw [HD.out], rfl⟩
        · have e1 : ¬ (i : Int) < (m : Int) := by omega
          have HD : Hid (decide (i < m) = false) := decide_eq_false hlt
          go_wp2
          go_meet
          exact ⟨by rw [HD.out], rfl⟩
      case rest =>
        obtain ⟨rfl, rfl⟩ := hcut
        go_upto_if 28 with fail
        go_cut [8] (fun x wx => (∃ n : Nat, x = .int .i64 (n : Int) ∧ 1 ≤ n ∧ p + n ≤ N ∧ (p + n < N → n % 8 = 0) ∧ (m ≤ i → p + n = N)) ∧ wr = wx)
        case first =>
          by_cases hlt : i < m
          · rw [decide_eq_true hlt]
            have hcs := HCS.out.old hb
            obtain ⟨cb, co, hca, hcc⟩ : ∃ cb co, ca = some ⟨cb, co, none⟩ ∧ ∀ j, j < zs.length → wr.cell? ⟨cb, co + j, none⟩ = some (.int .i64 (zs.getD j 0)) := by
              rcases hcs with k | k
              · have := HM.out; rw [k] at this; simp at this; omega
              · exact k
            subst hca
            have cz := hcc i (by rw [HM.out]; exact hlt)
            obtain ⟨z, hz⟩ : ∃ z, z = zs.getD i 0 := ⟨_, rfl⟩
            rw [← hz] at cz
            have ha := and7 z
            obtain ⟨q, hq⟩ : ∃ q, q = (z % 8).toNat := ⟨_, rfl⟩
            have ha2 : bits .and .i64 z 7 = (q : Int) := by rw [ha]; omega
            have hq2 : q < 8 := by omega
            have wa : IntKind.i64.wrap (1 + (q : Int)) = ((1 + q : Nat) : Int) := by rw [IntKind.wrap_i64]; omega
            have wb : IntKind.i64.wrap (8 * (1 + (q : Int))) = ((8 * (1 + q) : Nat) : Int) := by rw [IntKind.wrap_i64]; omega
            have wb' : IntKind.i64.wrap (8 * ((1 + q : Nat) : Int)) = ((8 * (1 + q) : Nat) : Int) := by rw [IntKind.wrap_i64]; omega
            have eli : (i : Int) < (m : Int) := by omega
            clear hcs hcc hz ha hq
            by_cases hk : 8 * (1 + q) < N - p
            · have ek : ((8 * (1 + q) : Nat) : Int) < ((N - p : Nat) : Int) := by omega
              have HR : Hid (∃ n : Nat, (((8 * (1 + q) : Nat) : Int)) = (n : Int) ∧ 1 ≤ n ∧ p + n ≤ N ∧ (p + n < N → n % 8 = 0) ∧ (m ≤ i → p + n = N)) := ⟨8 * (1 + q), rfl, by omega, by omega, by omega, by omega⟩
              clear hk
              go_wp2
              go_meet
              obtain ⟨n, k1, k2⟩ := HR.out
              exact ⟨⟨n, by first | exact congrArg _ k1 | (rw [← k1]; simp) , k2⟩, rfl⟩
            · have ek : ¬ ((8 * (1 + q) : Nat) : Int) < ((N - p : Nat) : Int) := by omega
              clear hk
              go_wp2
              go_meet
              exact ⟨⟨N - p, rfl, by omega, by omega, by omega, by omega⟩, rfl⟩
          · rw [decide_eq_false hlt]
            go_wp2
            go_meet
            exact ⟨⟨N - p, rfl, by omega, by omega, by omega, by omega⟩, rfl⟩
        case rest =>
          obtain ⟨⟨n, rfl, hn1, hn2, hn3, hn4⟩, rfl⟩ := hcut
          have HPN : Hid (PrS N m (ns ++ [n])) := HP.out.2.2.snoc (by rw [← HP.out.1]; omega) hn1 (by rw [← HP.out.1]; exact hn2) (by rw [← HP.out.1]; exact hn3) (by rw [← HP.out.1, ← HI.out]; exact hn4)
          have HO' : Hid (wr.ownsRow w.heap.size 37 3 (.slice la i lc) i (pcC db dof dc N 0 ns)) := by have := HO.out; rw [← HI.out] at this; exact this
          have ho' := HO'.out
          have wp : IntKind.i64.wrap ((p : Int) + (n : Int)) = ((p + n : Nat) : Int) := by rw [IntKind.wrap_i64]; omega
          have e1 : decide (((p + n : Nat) : Int) < (N : Int)) = decide (p + n < N) := by congr 1; exact propext (by omega)
          have hsz := hb.size
          clear hn3 hn4 wn HO
          go_wp2_with (first | (at_builtin; refine wpList_append_own_at _ rfl (.tmp 40) (.tmp 55) 25 rfl w.heap.size 37 i0 _ 3 40 Try.underlying25 hi hz0 hz1 hz2 rfl (by decide) _ _ _ rfl (ho'.alloc _) ⟨wr.heap.size, 0, none⟩ 1 1 (pc1 db dof dc N p n) rfl rfl ?c1 ?c2 ?c3 ?c4 ?c5 ?_))
          case c1 => first | exact three_new _ _ _ _ | (unfold pc1; rw [← e1]; exact three_new _ _ _ _) | (unfold pc1; exact three_new _ _ _ _)
          case c2 => intro u hu; simp [pc1] at hu; rcases hu with rfl | rfl | rfl <;> rfl
          case c3 => unfold maxLen; omega
          case c4 => omega
          case c5 => simp; omega
          intro v5 w5 r1 r2 _ _
          obtain ⟨la5, lc5, hv5⟩ := owns_shape r1
          subst hv5
          have bA : Below w.heap.size w (wr.alloc (.cells #[.int .i64 (p : Int), .slice (some ⟨db, dof + p, none⟩) n (dc - p), .bool (decide (p + n < N))] 37)) := hb.alloc hb.size _
          have hb5 : Below w.heap.size w w5 := by
            first | exact bA.grown r2 bA.size (fun k hk => (ho'.lt k hk).1) | exact (hb.alloc hb.size _).grown r2 (hb.alloc hb.size _).size (fun k hk => (ho'.lt k hk).1)
          have HO5 : Hid (w5.ownsRow w.heap.size 37 3 (.slice la5 (i + 1) lc5) (ns ++ [n]).length (pcC db dof dc N 0 (ns ++ [n]))) := by
            rw [pcC_snoc, List.length_append, ← HI.out, Nat.zero_add, ← HP.out.1]
            exact r1
          have HP5 : Hid (p + n = (ns ++ [n]).sum ∧ i + 1 = (ns ++ [n]).length ∧ PrS N m (ns ++ [n])) := ⟨by simp [HP.out.1], by simp [HI.out], HPN.out⟩
          clear r1 r2 ho' bA HPN HO' HP
          go_wp2
          go_roundw
          case rel => exact ⟨ns ++ [n], p + n, i + 1, rfl, by go_num, hn2, by omega, HP5, HO5, hb5⟩
          case measure => simp [intOf]; omega
end H11
end Go.Proofs.Ytcoaghcmbhogjaa
