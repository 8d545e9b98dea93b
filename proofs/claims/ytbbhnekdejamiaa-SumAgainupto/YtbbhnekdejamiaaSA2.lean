/-
  The statements' own list: its walk.
-/
import Derived.Test.YtbbhnekdejamiaaSA1
namespace Go.Proofs.Ytbbhnekdejamiaa.Wd
open Go.RowKit
open Ap

theorem owns_cap {w : World} {B n c : Nat} {e : TypeId} {a : Option Addr} {xs : List Value} (h : w.ownsRow B e 1 (.slice a n c) n xs) : n ≤ c := by
  rcases h.2 with ⟨h1, h0⟩ | ⟨g, cap, cur, h1, _, _, hc, _⟩
  · omega
  · have := (Value.slice.inj h1).2.2
    omega
theorem u8_of (j : Nat) : IntKind.u8.wrap (j : Int) = ((j % 256 : Nat) : Int) := by
  simp [IntKind.wrap, IntKind.bits, IntKind.signed]
theorem news1w (w : World) (t : TypeId) (x : Value) : ∀ j u, ([x] : List Value)[j]? = some u → (w.alloc (.cells #[x] t)).cell? ((⟨w.heap.size, 0, none⟩ : Addr).add j) = some u := by
  intro j u hu
  rw [Addr.add_lit, Nat.zero_add, World.cell?_alloc_at _ _ _ _ rfl]
  simpa using hu
set_option maxHeartbeats 3200000 in
set_option maxRecDepth 100000 in
theorem list_any (w : World) (a : Option Addr) (n c : Nat) (ps : List Part) (hn : ps.length = n) (hP : Parts w a ps) (hm : n ≤ 40) (hl : ∀ p ∈ ps, p.l.length ≤ 1099511627776) :
    Calls Try.prog 5 #[.slice a n c] w fun e w' => ∃ gl cap E ms, e = .returned (.slice (some ⟨gl, 0, none⟩) n cap) ∧ Li w.heap.size w' (.slice (some ⟨gl, 0, none⟩) (n + (n + 9)) cap) E ms ∧ E.map LE.l = ps.map Part.l ∧ ms.length = n + 9 ∧ Below w.heap.size w w' := by
  obtain ⟨j0, hj, hy0, hy1, hy2⟩ := info_parts infoBytes
  have HN : Hid (ps.length = n) := hn
  have HP : Hid (Parts w a ps) := hP
  have HL : Hid (∀ p ∈ ps, p.l.length ≤ 1099511627776) := hl
  clear hn hP hl
  go_enter Try.func5, Try.ntmps5
  go_wp2
  go_loopw [3, 4] (fun lv ix wr => ∃ (k : Nat) (E : List LE), k ≤ n ∧ ix = .int .i64 k ∧ wr.ownsRow w.heap.size 26 1 lv k (E.map LE.v) ∧ Hid (Li w.heap.size wr lv E [] ∧ E.length = k ∧ E.map LE.l = (ps.take k).map Part.l ∧ Below w.heap.size w wr)) (fun _ ix _ => n - (intOf ix).toNat)
  case atStart => exact ⟨0, [], Nat.zero_le _, rfl, World.ownsRow_nil _ _ _ _, ⟨World.ownsRow_nil _ _ _ _, fun e he => by simp at he, fun j g hj => by simp at hj, by simp, Nat.le_refl _⟩, rfl, by simp, Below.refl _ _⟩
  case round =>
    obtain ⟨k, E, hk, rfl, hrow, ST⟩ := hrel
    by_cases hlt : k < n
    · obtain ⟨p, hp⟩ : ∃ p, p = ps[k]'(by rw [HN.out]; exact hlt) := ⟨_, rfl⟩
      have hpm : p ∈ ps := by rw [hp]; exact List.getElem_mem _
      obtain ⟨b, off, rfl, hc⟩ : ∃ b off, a = some ⟨b, off, none⟩ ∧ w.cell? ⟨b, off + k, none⟩ = some (.slice p.a p.l.length p.cap) := by
        rcases HP.out.1 with h0 | ⟨b, off, ha, hc⟩
        · have := HN.out; rw [h0] at this; simp at this; omega
        · exact ⟨b, off, ha, by rw [hp]; exact hc k (by rw [HN.out]; exact hlt)⟩
      have hbl := World.block_lt_of_cell? w _ hc
      have c0 : wr.cell? ⟨b, off + k, none⟩ = some (.slice p.a p.l.length p.cap) := (ST.out.2.2.2.cell (p := ⟨b, off + k, none⟩) hbl).trans hc
      have k0 : (0 : Int) ≤ (k : Int) := by omega
      have k1 : (k : Int) < (n : Int) := by omega
      have k2 : ((k : Int)).toNat = k := by omega
      have Q : Hid _ := wide_any p.a p.l.length p.cap p.l wr rfl (((HP.out.2 p hpm).1).below (B := w.heap.size) ((HP.out.2 p hpm).1).lt ST.out.2.2.2) (HL.out p hpm)
      have HPP : Hid (ps[k]? = some p) := by rw [hp]; exact List.getElem?_eq_getElem _
      clear hp hpm hc hbl
      go_wp2_with fail
      refine Calls.mono Q.out ?_
      rintro e w1 ⟨g, rfl, ho, hb1⟩
      have h1 := (ST.out.1.below hb1).row
      have hrow1 : (w1.alloc (.cells #[.slice (some ⟨g, 0, none⟩) p.l.length (2 * p.l.length + 70)] 26)).ownsRow w.heap.size 26 1 u3 k (E.map LE.v) := by
        have h2 := h1.alloc (.cells #[.slice (some ⟨g, 0, none⟩) p.l.length (2 * p.l.length + 70)] 26)
        rw [List.length_nil, Nat.add_zero, ST.out.2.1] at h2
        simpa [mkV] using h2
      have hsz : w.heap.size ≤ w1.heap.size := Nat.le_trans ST.out.2.2.2.size hb1.size
      have HO : Hid (OwnB w1 wr.heap.size (.slice (some ⟨g, 0, none⟩) (2 * p.l.length + 70) (2 * p.l.length + 70)) (2 * p.l.length + 70) (wide p.l)) := ho
      have HB1 : Hid _ := hb1
      clear h1 ho hb1 Q hrow c0
      go_wp2_with (first | (at_builtin; refine wpList_append_own _ rfl (.tmp 12) (.tmp 18) 22 rfl w.heap.size 26 j0 (.slice none 0 0) 1 24 Try.underlying22 hj hy0 hy1 hy2 rfl (by decide) _ _ _ rfl hrow1 ⟨w1.heap.size, 0, none⟩ 1 1 [.slice (some ⟨g, 0, none⟩) p.l.length (2 * p.l.length + 70)] rfl rfl (news1w _ _ _) (by intro u hu; simp at hu; subst hu; rfl) (by unfold maxLen; omega) (by omega) (by simp; omega) ?_))
      intro v6 w6 ho6 hg6 _
      have NX : Hid (Li w.heap.size w6 v6 (E ++ [⟨g, p.l⟩]) [] ∧ (E ++ [(⟨g, p.l⟩ : LE)]).length = k + 1 ∧ (E ++ [(⟨g, p.l⟩ : LE)]).map LE.l = (ps.take (k + 1)).map Part.l ∧ Below w.heap.size w w6) := by
        refine ⟨ST.out.1.part ⟨g, p.l⟩ HB1.out HO.out _ (by rw [ST.out.2.1]; exact ho6) hg6, by simp [ST.out.2.1], ?_, ?_⟩
        · rw [List.take_add_one, HPP.out, List.map_append, List.map_append, ST.out.2.2.1]; simp
        · exact ((ST.out.2.2.2.trans (HB1.out.mono ST.out.2.2.2.size)).alloc hsz _).grown hg6 (by simp; omega) (fun q hq => (hrow1.lt q hq).1)
      have hr6 : w6.ownsRow w.heap.size 26 1 v6 (k + 1) ((E ++ [(⟨g, p.l⟩ : LE)]).map LE.v) := by rw [List.map_append]; exact ho6
      clear ho6 hg6 hrow1 HO HB1 ST HPP
      go_wp2
      go_roundw
      case rel => exact ⟨k + 1, _, by omega, by go_num, hr6, NX⟩
      case measure => simp [intOf]; omega
    · have hkn : k = n := by omega
      have hni : ¬ ((k : Int) < (n : Int)) := by omega
      have S0 : Hid (Li w.heap.size wr u3 E [] ∧ E.length = n ∧ E.map LE.l = ps.map Part.l ∧ Below w.heap.size w wr) := ⟨ST.out.1, by rw [ST.out.2.1]; exact hkn, by rw [ST.out.2.2.1, hkn, ← HN.out, List.take_length], ST.out.2.2.2⟩
      clear ST hkn hlt hrow HP HL
      go_wp2
      go_loopw [3, 5] (fun lv ix wq => ∃ (j : Nat) (ms : List Nat), j ≤ n + 9 ∧ ix = .int .i64 j ∧ wq.ownsRow w.heap.size 26 1 lv (n + j) (E.map LE.v ++ mkV ms) ∧ Hid (Li w.heap.size wq lv E ms ∧ ms.length = j ∧ Below w.heap.size w wq)) (fun _ ix _ => n + 9 - (intOf ix).toNat)
      case atStart => exact ⟨0, [], Nat.zero_le _, rfl, by have := S0.out.1.row; rw [S0.out.2.1] at this; exact this, S0.out.1, rfl, S0.out.2.2.2⟩
      case round =>
        obtain ⟨j, ms, hjn, rfl, hrow, ST⟩ := hrel
        obtain ⟨la, lc, rfl⟩ := owns_shape hrow
        by_cases hjl : j < n + 9
        · have d1 : (j : Int) < (n : Int) + 9 := by omega
          obtain ⟨x, hx⟩ : ∃ x, x = j % 256 := ⟨_, rfl⟩
          have hx2 : IntKind.u8.wrap (j : Int) = (x : Int) := by rw [hx]; exact u8_of j
          have HX : Hid (x = j % 256) := hx
          clear hx
          have hrow1 := (hrow.alloc (.cells #[.int .u8 (x : Int), .int .u8 7] 5)).alloc (.cells #[.slice (some ⟨wr.heap.size, 0, none⟩) 2 2] 26)
          have hsz := ST.out.2.2.size
          clear hrow
          go_wp2_with (first | (at_builtin; refine wpList_append_own _ rfl (.tmp 27) (.tmp 31) 22 rfl w.heap.size 26 j0 (.slice none 0 0) 1 24 Try.underlying22 hj hy0 hy1 hy2 rfl (by decide) _ _ _ rfl hrow1 ⟨wr.heap.size + 1, 0, none⟩ 1 1 [.slice (some ⟨wr.heap.size, 0, none⟩) 2 2] rfl rfl (by have := news1w (wr.alloc (.cells #[.int .u8 (x : Int), .int .u8 7] 5)) 26 (.slice (some ⟨wr.heap.size, 0, none⟩) 2 2); simpa using this) (by intro u hu; simp at hu; subst hu; rfl) (by unfold maxLen; omega) (by omega) (by simp; omega) ?_))
          intro v6 w6 ho6 hg6 _
          have NX : Hid (Li w.heap.size w6 v6 E (ms ++ [wr.heap.size]) ∧ (ms ++ [wr.heap.size]).length = j + 1 ∧ Below w.heap.size w w6) := by
            refine ⟨ST.out.1.mark x (by rw [ST.out.2.1]; exact HX.out) _ (by rw [S0.out.2.1, ST.out.2.1, List.append_assoc]; exact ho6) hg6, by simp [ST.out.2.1], ?_⟩
            exact ((ST.out.2.2.alloc hsz _).alloc (by simp; omega) _).grown hg6 (by simp; omega) (fun q hq => (hrow1.lt q hq).1)
          have hr6 : w6.ownsRow w.heap.size 26 1 v6 (n + (j + 1)) (E.map LE.v ++ mkV (ms ++ [wr.heap.size])) := by
            have := NX.out.1.row
            rw [S0.out.2.1, NX.out.2.1] at this
            exact this
          clear ho6 hg6 hrow1 ST
          go_wp2
          go_roundw
          case rel => exact ⟨j + 1, _, by omega, by go_num, hr6, NX⟩
          case measure => simp [intOf]; omega
        · have hjn2 : j = n + 9 := by omega
          have d1 : ¬ ((j : Int) < (n : Int) + 9) := by omega
          subst hjn2
          obtain ⟨gl, cap, e1⟩ : ∃ gl cap, Value.slice la (n + (n + 9)) lc = .slice (some ⟨gl, 0, none⟩) (n + (n + 9)) cap := by
            rcases hrow.2 with ⟨_, h0⟩ | ⟨g, cap, cur, h1, _⟩
            · omega
            · exact ⟨g, cap, h1⟩
          simp only [Value.slice.injEq, true_and] at e1
          obtain ⟨rfl, rfl⟩ := e1
          have hcap : n + (n + 9) ≤ lc := (owns_cap hrow)
          have hcap2 : (n : Int) ≤ (lc : Int) := by omega
          clear hrow
          go_wp2
          go_ret
          exact ⟨gl, lc, rfl, E, ms, ST.out.1, S0.out.2.2.1, ST.out.2.1, ST.out.2.2⟩
end Go.Proofs.Ytbbhnekdejamiaa.Wd
