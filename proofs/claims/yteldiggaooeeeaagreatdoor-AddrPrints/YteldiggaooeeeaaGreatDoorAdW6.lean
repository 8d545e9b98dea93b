/-
  Layer 4: addr.dotted.
-/
import Derived.Test.YteldiggaooeeeaaGreatDoorAdW5
import Derived.Lib.AppendIntMem
namespace Go.Proofs.YteldiggaooeeeaaGreatDoor
open Go.RowKit Go.Maps

/-- a text of bytes -/
def txB (L : List Nat) : ByteArray := ⟨(L.map UInt8.ofNat).toArray⟩
theorem txB_data (L : List Nat) : (txB L).data.toList = L.map UInt8.ofNat := by unfold txB; simp
theorem txB_size (L : List Nat) : (txB L).size = L.length := by show (txB L).data.size = _; unfold txB; simp
theorem txB_drp {L : List Nat} (h : ∀ x ∈ L, x < 256) : drp (txB L) 0 = L := by
  unfold drp
  rw [List.drop_zero, txB_data, List.map_map]
  conv => rhs; rw [← List.map_id L]
  refine List.map_congr_left fun x hx => ?_
  have := h x hx
  simp
  omega
theorem dec3_lt {c : Nat} (h : c < 256) : ∀ x ∈ dec3 c, x < 256 := fun x hx => by have := dec3_dg h x hx; simp [dgB] at this; omega
theorem dots_lt {a b c d : Nat} (ha : a < 256) (hb : b < 256) (hc : c < 256) (hd : d < 256) : ∀ x ∈ dots a b c d, x < 256 := fun x hx => by
  rcases dots_no ha hb hc hd hx with h | h
  · simp [dgB] at h; omega
  · omega
theorem dec3_lib {c : Nat} (h : c < 256) : Lib.decDigits c = (dec3 c).map UInt8.ofNat := by
  unfold dec3
  rw [Lib.decDigits]
  by_cases h1 : c < 10
  · rw [dif_pos h1, if_pos h1]; rfl
  · rw [dif_neg h1, if_neg h1, Lib.decDigits]
    by_cases h2 : c < 100
    · rw [dif_pos (by omega), if_pos h2]; rfl
    · rw [dif_neg (by omega), if_neg h2, Lib.decDigits, dif_pos (by omega)]
      simp [Nat.div_div_eq_div_mul]
theorem dec3_itoa {c : Nat} (h : c < 256) : (Lib.itoa (c : Int)).toArray = (txB (dec3 c)).data := by
  unfold Lib.itoa
  rw [if_neg (by omega), Int.toNat_natCast, dec3_lib h]
  rfl
/-- the library's table of powers lies where the program has it -/
def Pow (w : World) : Prop := Lib.TabIs Tryz.prog w "internal/strconv.uint64pow10" .u64 Lib.pow10Tab
theorem Pow.below {w w' : World} (h : Pow w) (b : Below w.heap.size w w') : Pow w' := Lib.tabBelow_of_tabIs h w' b
theorem itoa_byte (n : Nat) (hn : n < 256) (w : World) (hp : Pow w) : Calls Tryz.prog 38 #[.int .i64 (n : Nat)] w fun e w' => e = .returned (.string (txB (dec3 n))) ∧ Below w.heap.size w w' := by
  refine (itoa_any (n : Int) (by omega) (by omega) w hp).mono ?_
  rintro e w' ⟨rfl, k, os, rfl⟩
  refine ⟨?_, Lib.below_grow _ w (Nat.le_refl _) k os⟩
  rw [dec3_itoa hn]
theorem Tryz.infoStr : (Tryz.prog.info? 9).map (fun i => (i.zero, i.size, i.bytes)) = some (some (.string ⟨#[]⟩), 1, 16) := by kernel_rfl
def dtT (b : Nat → Nat) (i : Nat) : ByteArray := txB (dec3 (b i))
def dtL (b : Nat → Nat) (i : Nat) : List Value := (List.range i).map fun k => .string (dtT b k)
theorem dtL_len (b : Nat → Nat) (i : Nat) : (dtL b i).length = i := by simp [dtL]
theorem dtL_succ (b : Nat → Nat) (i : Nat) : dtL b (i + 1) = dtL b i ++ [.string (dtT b i)] := by simp [dtL, List.range_succ]
theorem own_some {w : World} {base : Nat} {e : TypeId} {sz n c : Nat} {a : Option Addr} {xs : List Value} (h : w.ownsRow base e sz (.slice a n c) n xs) (hn : 0 < n) : ∃ g, a = some ⟨g, 0, none⟩ ∧ n ≤ c ∧ base ≤ g ∧ g < w.heap.size := by
  rcases h.2 with ⟨_, h0⟩ | ⟨g, cap, cur, e1, hb, hg, hc, _⟩
  · omega
  · simp only [Value.slice.injEq] at e1
    obtain ⟨rfl, _, rfl⟩ := e1
    exact ⟨g, rfl, hc, hb, (Array.getElem?_eq_some_iff.1 hg).1⟩
theorem join_dots (b : Nat → Nat) : (⟨(Lib.join (([dtT b 0, dtT b 1, dtT b 2, dtT b 3]).map (·.data.toList)) (⟨#[46]⟩ : ByteArray).data.toList).toArray⟩ : ByteArray) = txB (dots (b 0) (b 1) (b 2) (b 3)) := by
  unfold txB dots Lib.join
  congr 2
  simp [dtT, txB_data, List.intercalate, List.intersperse]
theorem join_len (b : Nat → Nat) : (Lib.join (([dtT b 0, dtT b 1, dtT b 2, dtT b 3]).map (·.data.toList)) (⟨#[46]⟩ : ByteArray).data.toList).length ≤ 15 := by
  have h := congrArg ByteArray.size (join_dots b)
  rw [txB_size] at h
  have h3 : ∀ l : List UInt8, (⟨l.toArray⟩ : ByteArray).size = l.length := fun l => List.size_toArray
  rw [h3] at h
  have h2 := dots_hi (b 0) (b 1) (b 2) (b 3)
  omega
set_option maxHeartbeats 1600000 in
set_option maxRecDepth 100000 in
theorem dotted_any' (P o cap : Nat) (b : Nat → Nat) (w : World) (hb : ∀ i, i < 4 → b i < 256) (hc : ∀ i, i < 4 → w.cell? ⟨P, o + i, none⟩ = some (.int .u8 (b i : Nat))) (hp : Pow w) : Calls Tryz.prog 19 #[.slice (some ⟨P, o, none⟩) 4 cap] w fun r w' => r = .returned (.string (txB (dots (b 0) (b 1) (b 2) (b 3)))) ∧ Below w.heap.size w w' := by
  obtain ⟨i0, hi, hz0, hz1, hz2⟩ := info_parts Tryz.infoStr
  have HI : Hid (Tryz.prog.info? 9 = some i0 ∧ i0.zero = some (.string ⟨#[]⟩) ∧ i0.size = 1 ∧ i0.bytes = 16) := ⟨hi, hz0, hz1, hz2⟩
  have HB : Hid (∀ i, i < 4 → b i < 256) := hb
  have HCE : Hid (∀ i, i < 4 → w.cell? ⟨P, o + i, none⟩ = some (.int .u8 (b i : Nat))) := hc
  have HPW : Hid (Pow w) := hp
  clear hi hz0 hz1 hz2 hb hc hp
  go_enter Tryz.func19, Tryz.ntmps19
  go_wp2
  go_loopw [3, 8] (fun lv ix wr => ∃ i : Nat, i ≤ 4 ∧ ix = .int .i64 (i : Nat) ∧ Hid (wr.ownsRow w.heap.size 9 1 lv i (dtL b i) ∧ Below w.heap.size w wr)) (fun _ ix _ => 4 - (intOf ix).toNat)
  case atStart => exact ⟨0, by omega, rfl, World.ownsRow_nil _ _ _ _, Below.refl _ _⟩
  case round =>
    rename_i lv ix
    obtain ⟨i, hi4, rfl, HO⟩ := hrel
    obtain ⟨a, c, hlv⟩ := owns_shape HO.out.1
    subst hlv
    have HI4 : Hid (i ≤ 4) := hi4
    clear hi4
    by_cases hlt : i < 4
    · have p1 : decide ((i : Int) < 4) = true := decide_eq_true (by omega)
      have p2 : decide (i < 4) = true := decide_eq_true hlt
      have p3 : (i : Int) < 4 := by omega
      have p4 : (0 : Int) ≤ (i : Int) := by omega
      have HLT : Hid (i < 4) := hlt
      have x3 : IntKind.i64.wrap ((i : Int) + 1) = (i : Int) + 1 := i64_s _ (by omega) (by omega)
      have cP : wr.cell? ⟨P, o + i, none⟩ = some (.int .u8 (b i : Nat)) := by
        have h1 := HCE.out i hlt
        exact (HO.out.2.cell (World.block_lt_of_cell? w _ h1)).trans h1
      have x4 : IntKind.i64.wrap ((b i : Nat) : Int) = ((b i : Nat) : Int) := i64_s _ (by omega) (by have := HB.out i hlt; omega)
      clear hlt
      go_wp2_with fail
      refine (itoa_byte (b i) (HB.out i HLT.out) wr (HPW.out.below HO.out.2)).mono ?_
      rintro e w1 ⟨rfl, hbel⟩
      have H1 : Hid (w1.ownsRow w.heap.size 9 1 (.slice a i c) i (dtL b i) ∧ Below w.heap.size w w1) := ⟨(Ch.ofBelow (S := fun _ => False) hbel).owns HO.out.1 (fun _ _ h => h), HO.out.2.trans (hbel.mono HO.out.2.size)⟩
      clear hbel cP
      go_wp2_with (at_builtin; refine wpList_append_own_at _ rfl (.tmp 12) (.tmp 16) 78 rfl w.heap.size 9 i0 (.string ⟨#[]⟩) 1 16 Tryz.underlying78 HI.out.1 HI.out.2.1 HI.out.2.2.1 HI.out.2.2.2 rfl (by decide) _ _ _ rfl (H1.out.1.alloc _) ⟨w1.heap.size, 0, none⟩ 1 1 [.string (dtT b i)] rfl rfl (cellsOne _ _ _) (by intro u hu; simp at hu; subst hu; rfl) (by have := HLT.out; unfold maxLen; omega) (by have := HLT.out; omega) (by have := H1.out.2.size; simp; omega) ?_)
      intro v2 w2 ho2 hg2 _ _
      have H2 : Hid (w2.ownsRow w.heap.size 9 1 v2 (i + 1) (dtL b (i + 1)) ∧ Below w.heap.size w w2) := ⟨by rw [dtL_succ]; exact ho2, (H1.out.2.alloc H1.out.2.size _).grown hg2 (by have := H1.out.2.size; simp; omega) (fun j hj => (H1.out.1.lt j hj).1)⟩
      clear ho2 hg2
      go_wp2
      go_roundw
      case rel => exact ⟨i + 1, HLT.out, by simp, H2.out⟩
      case measure => have := HLT.out; simp [intOf]; omega
    · have HE : Hid (i = 4) := by have := HI4.out; show i = 4; omega
      have p1 : decide ((i : Int) < 4) = false := decide_eq_false (by omega)
      have p2 : decide (i < 4) = false := decide_eq_false hlt
      have p3 : ¬ (i : Int) < 4 := by omega
      clear hlt
      obtain rfl := HE.out
      obtain ⟨g, rfl, hcap, _, hglt⟩ := own_some HO.out.1 (by decide)
      have HCELL : Hid (∀ (j : Nat) x, [dtT b 0, dtT b 1, dtT b 2, dtT b 3][j]? = some x → wr.cell? ⟨g, 0 + j, none⟩ = some (.string x)) := by
        intro j x hj
        have hlt : j < 4 := (List.getElem?_eq_some_iff.1 hj).1
        rw [Nat.zero_add, HO.out.1.cellAt j (by omega)]
        rcases (show j = 0 ∨ j = 1 ∨ j = 2 ∨ j = 3 by omega) with rfl | rfl | rfl | rfl <;> (simp at hj; subst hj; rfl)
      have HG : Hid (g < wr.heap.size ∧ 4 ≤ c) := ⟨hglt, hcap⟩
      have HBEL : Hid (Below w.heap.size w wr) := HO.out.2
      clear HE HO HI4 p1 p2 p3 hcap hglt
      go_wp2_with fail
      refine (join_any g 0 c [dtT b 0, dtT b 1, dtT b 2, dtT b 3] ⟨#[46]⟩ wr HCELL.out HG.out.1 (by simp) HG.out.2 (Nat.le_trans (join_len b) (by decide))).mono ?_
      rintro e w1 ⟨rfl, hb1⟩
      rw [join_dots]
      have H1 : Hid (Below w.heap.size w w1) := HBEL.out.trans (hb1.mono HBEL.out.size)
      clear hb1
      go_wp2
      go_ret
      exact ⟨rfl, H1.out⟩
end Go.Proofs.YteldiggaooeeeaaGreatDoor
