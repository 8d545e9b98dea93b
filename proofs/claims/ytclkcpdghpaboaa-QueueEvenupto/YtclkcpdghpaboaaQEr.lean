/-
  Layer 18, QueueEven's own: all.
-/
import Derived.Test.YtclkcpdghpaboaaQEp
import Derived.Test.YtclkcpdghpaboaaQB8
namespace Go.Proofs.Ytclkcpdghpaboaa
open Go.RowKit Go.ChangeShapes Go.WideShapes

def blL (b : Bool) : List Value := [.bool b]
theorem blL_len (b : Bool) : (blL b).length = 1 := rfl
theorem blL_one (b : Bool) : ∀ u ∈ blL b, u.oneCell' = true := by simp [blL, Value.oneCell']
theorem info_bl : Info 4 1 := info_of (by kernel_rfl)
theorem rangeB (w : World) (t : TypeId) (b : Bool) : (w.alloc (.cells #[.bool b] t)).rangeAt w.heap.size 0 (blL b) := fun j u hj => by
  have hj0 : j = 0 := by have := (List.getElem?_eq_some_iff.1 hj).1; rw [blL_len] at this; omega
  subst hj0
  rw [World.cell?_alloc_at _ _ _ _ rfl]
  exact hj
/-- which classes wait and are not held up -/
def rdL (cs : List CL) (k : Nat) : List Bool := (List.range k).map (fun i => (cAt cs i).rdy)
theorem rdL_next (cs : List CL) (k : Nat) : rdL cs (k + 1) = rdL cs k ++ [(cAt cs k).rdy] := by unfold rdL; rw [List.range_succ, List.map_append]; rfl
theorem rdL_len (cs : List CL) (k : Nat) : (rdL cs k).length = k := by unfold rdL; rw [List.length_map, List.length_range]
theorem i64_e (x : Int) (h0 : -1000000000000000000 ≤ x) (h1 : x ≤ 1000000000000000000) : IntKind.i64.wrap x = x := by rw [IntKind.wrap_i64]; omega
set_option maxHeartbeats 1600000 in
set_option maxRecDepth 100000 in
theorem all_any {W : World} {P G : Nat} {cs : List CL} {t : TN} {B : Nat} {lv bv sv : Value} {ms : List BM} {a : Option Addr} {l2 : List LI} {p : Nat} {tv : Value} {w : World} (h : QNI W P G cs t B lv bv sv ms cs a l2 p tv (cs.map CL.tk) w) (n c : Nat) (hn : cs.length = n) (hn8 : n ≤ 8) : Calls Try.prog 30 #[.slice a n c, .pointer (some ⟨B, 0, none⟩), .pointer (some ⟨p, 0, none⟩)] w fun e w' => ∃ v, e = .returned v ∧ GL 1 blL 4 w' w.heap.size v (rdL cs n) ∧ QNI W P G cs t B lv bv sv ms cs a l2 p tv (cs.map CL.tk) w' ∧ Below w.heap.size w w' := by
  have HS : Hid (QNI W P G cs t B lv bv sv ms cs a l2 p tv (cs.map CL.tk) w ∧ cs.length = n) := ⟨h, hn⟩
  clear h hn
  go_enter Try.func30, Try.ntmps30
  go_wp2_with fail
  go_loopw [7, 8] (fun rv ix wr => ∃ k : Nat, ix = .int .i64 (k : Nat) ∧ k ≤ n ∧ Hid (GL 1 blL 4 wr w.heap.size rv (rdL cs k) ∧ QNI W P G cs t B lv bv sv ms cs a l2 p tv (cs.map CL.tk) wr ∧ Below w.heap.size w wr)) (fun _ ix _ => n - (intOf ix).toNat)
  case atStart => exact ⟨0, rfl, Nat.zero_le _, GL.nil, HS.out.1, Below.refl _ _⟩
  case round =>
    obtain ⟨k, rfl, hk, HI⟩ := hrel
    by_cases hin : k < n
    · have p1 : decide ((k : Int) < (n : Int)) = true := decide_eq_true (by omega)
      have p2 : decide (k < n) = true := decide_eq_true hin
      have wk1 : IntKind.i64.wrap ((k : Int) + 1) = (k : Int) + 1 := i64_e _ (by omega) (by omega)
      have QR : Hid _ := pready_any W.heap.size W.heap.size B p lv bv sv tv ms cs t wr HI.out.2.1.ql.k HI.out.2.1.pk HI.out.2.1.ql.q.ok HI.out.2.1.ql.ag a n c (by rw [HI.out.2.1.ql.li]; exact HI.out.2.1.ql.ls.li) HS.out.2 k hin
      obtain ⟨rd, hrd⟩ : ∃ b, b = (cAt cs k).rdy := ⟨_, rfl⟩
      rw [← hrd] at QR
      have HRD : Hid (rd = (cAt cs k).rdy) := hrd
      obtain ⟨la, lc, hlv⟩ := HI.out.1.form
      rw [rdL_len] at hlv
      obtain ⟨rv, hrv⟩ : ∃ v, v = u7 := ⟨_, rfl⟩
      rw [← hrv] at hlv HI ⊢
      subst hlv
      clear hrd hrv
      go_wp2_with fail
      refine Calls.mono QR.out ?_
      rintro ez w1 ⟨rfl, b1⟩
      clear QR
      have H1 : Hid (GL 1 blL 4 w1 w.heap.size (.slice la k lc) (rdL cs k) ∧ QNI W P G cs t B lv bv sv ms cs a l2 p tv (cs.map CL.tk) w1 ∧ Below w.heap.size w w1) := ⟨HI.out.1.below b1, HI.out.2.1.below b1, HI.out.2.2.trans (b1.mono HI.out.2.2.size)⟩
      clear b1
      obtain ⟨wy, hwy⟩ : ∃ y_, y_ = w1.alloc (.cells #[.bool rd] 4) := ⟨_, rfl⟩
      have HYB : Hid (Below w1.heap.size w1 wy ∧ w1.heap.size < wy.heap.size) := by rw [hwy]; exact ⟨(Below.refl _ _).alloc (Nat.le_refl _) _, by rw [World.size_alloc]; omega⟩
      have HYR : Hid (wy.rangeAt w1.heap.size 0 (blL rd)) := by rw [hwy]; exact rangeB w1 4 rd
      have HYW : Hid _ := hwy
      clear hwy
      go_upto_region 4 with (first | (at_builtin; refine wpList_app1G blL_len blL_one (by decide) rfl (.tmp 15) (.tmp 21) 60 4 rfl Try.underlying60 info_bl w.heap.size (.slice la k lc) (rdL cs k) rfl ?gr w1.heap.size 1 rd rfl ?gl ?gs (by rw [rdL_len]; omega) ?gb ?gk))
      case gr => rw [← HYW.out]; exact H1.out.1.below HYB.out.1
      case gl => rw [← HYW.out]; exact HYB.out.2
      case gs => rw [← HYW.out]; exact HYR.out
      case gb => rw [← HYW.out]; exact Nat.le_trans H1.out.2.2.size HYB.out.1.size
      rw [← HYW.out]
      intro vb wb gb kb _
      have HB9 : Hid (GL 1 blL 4 wb w.heap.size vb (rdL cs (k + 1)) ∧ QNI W P G cs t B lv bv sv ms cs a l2 p tv (cs.map CL.tk) wb ∧ Below w.heap.size w wb) := by
        have h1 := H1.out.2.2.trans (HYB.out.1.mono H1.out.2.2.size)
        have h2 : Below w.heap.size wy wb := (Ch.ofGrown kb).below (fun q hq => (H1.out.1.kind q hq).1) h1.size
        refine ⟨by rw [rdL_next, ← HRD.out]; exact gb, ?_, h1.trans h2⟩
        exact HS.out.1.below (h1.trans h2)
      clear gb kb
      go_wp2
      go_roundw
      case rel => exact ⟨k + 1, by go_num, by omega, HB9.out.1, HB9.out.2.1, HB9.out.2.2⟩
      case measure => simp [intOf]; omega
    · have p1 : decide ((k : Int) < (n : Int)) = false := decide_eq_false (by omega)
      have p2 : decide (k < n) = false := decide_eq_false hin
      have HKN : Hid (rdL cs k = rdL cs n) := by show _ = _; congr 1; omega
      clear hin
      go_wp2
      go_ret
      exact ⟨_, rfl, by rw [← HKN.out]; exact HI.out.1, HI.out.2.1, HI.out.2.2⟩
end Go.Proofs.Ytclkcpdghpaboaa
