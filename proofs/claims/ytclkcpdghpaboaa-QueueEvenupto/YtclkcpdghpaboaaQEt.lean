/-
  Layer 18, QueueEven's own: even.
-/
import Derived.Test.YtclkcpdghpaboaaQEs
namespace Go.Proofs.Ytclkcpdghpaboaa
open Go.RowKit Go.ChangeShapes Go.WideShapes

theorem bl_at {w : World} {base n c : Nat} {a : Option Addr} {L : List Bool} (h : GL 1 blL 4 w base (.slice a n c) L) {i : Nat} (hi : i < L.length) : ∃ g, a = some ⟨g, 0, none⟩ ∧ g < w.heap.size ∧ w.cell? ⟨g, i, none⟩ = some (.bool (L.getD i false)) ∧ ∃ cc, w.heap[g]? = some (.cells cc 4 (0, 0)) := by
  obtain ⟨g, cap, hv, hb, hlt, hr⟩ := h.at blL_len i (L[i]) (List.getElem?_eq_getElem hi)
  simp only [Value.slice.injEq] at hv
  have h1 := hr 0 (.bool L[i]) rfl
  rw [Nat.mul_one, Nat.add_zero] at h1
  obtain ⟨_, _, cc, hc⟩ := h.kind g (by rw [hv.1]; rfl)
  refine ⟨g, hv.1, hlt, ?_, cc, hc⟩
  rw [h1]
  simp [List.getD, hi]
theorem mul_v {x y : Int} (hx : 0 ≤ x ∧ x ≤ 1000000000000) (hy : 0 ≤ y ∧ y ≤ 65535) : 0 ≤ x * y ∧ x * y ≤ 65535000000000000 := by
  refine ⟨Int.mul_nonneg hx.1 hy.1, ?_⟩
  calc x * y ≤ 1000000000000 * 65535 := Int.mul_le_mul hx.2 hy.2 hy.1 (by omega)
    _ = 65535000000000000 := by decide
theorem set_self {α : Type} {L : List α} {k : Nat} {x : α} (h : L[k]? = some x) : L.set k x = L := by
  apply List.ext_getElem?
  intro i
  by_cases e : k = i
  · subst e
    rw [List.getElem?_set_self (List.getElem?_eq_some_iff.1 h).1, h]
  · rw [List.getElem?_set_ne e]
set_option maxHeartbeats 6400000 in
set_option maxRecDepth 100000 in
theorem even_any (w : World) (a : Option Addr) (n c : Nat) (l2 : List LI) (base : Nat) (pa : Option Addr) (N2 pc : Nat) (ps : List (Int × Int)) (b1 b2 : Nat) (xa ya : Option Addr) (xc yc : Nat) (was is_ : List Bool) (cc : Nat) (size : Int) (hp : GL 2 prL 106 w base (.slice pa N2 pc) ps) (hN2 : N2 = n * n) (hw1 : GL 1 blL 4 w b1 (.slice xa n xc) was) (hl1 : was.length = n) (hw2 : GL 1 blL 4 w b2 (.slice ya n yc) is_) (hl2 : is_.length = n) (hli : ListG 5 liL LiW w a l2) (hlk : ∀ g off, a = some ⟨g, off, none⟩ → ∀ q, (Value.slice pa N2 pc).ownBlock = some q → q ≠ g) (hln : l2.length = n) (hn8 : n ≤ 8) (hs : 0 ≤ size ∧ size ≤ 65535) (hq : ∀ l ∈ l2, 64 ≤ l.q ∧ l.q ≤ 65535) (hpb : ∀ x ∈ ps, (0 ≤ x.1 ∧ x.1 ≤ 1000000000000) ∧ (0 ≤ x.2 ∧ x.2 ≤ 1000000000000)) (hb : ∀ (i j : Nat) (x y : LI) (r : Int × Int), l2[i]? = some x → l2[j]? = some y → was.getD i false = true → was.getD j false = true → is_.getD i false = true → is_.getD j false = true → evP was is_ n cc size ps (i * n + j) = r → (0 ≤ r.1 ∧ r.1 ≤ 1000000000000) ∧ (0 ≤ r.2 ∧ r.2 ≤ 1000000000000) ∧ r.1 * y.q - r.2 * x.q ≤ 2 * (x.q * y.q) + 65535 * (x.q + y.q)) : Calls Try.prog 31 #[.slice a n c, .slice pa N2 pc, .slice xa n xc, .slice ya n yc, .int .i64 (cc : Int), .int .i64 size] w fun e w' => e = .returned (.bool true) ∧ GL 2 prL 106 w' base (.slice pa N2 pc) (evL was is_ n cc size ps) ∧ Ch (fun q => (Value.slice pa N2 pc).ownBlock = some q) w w' := by
  have hpl := hp.len
  have HS : Hid (GL 2 prL 106 w base (.slice pa N2 pc) ps ∧ ps.length = N2 ∧ N2 = n * n ∧ GL 1 blL 4 w b1 (.slice xa n xc) was ∧ was.length = n ∧ GL 1 blL 4 w b2 (.slice ya n yc) is_ ∧ is_.length = n ∧ ListG 5 liL LiW w a l2 ∧ l2.length = n ∧ (∀ l ∈ l2, 64 ≤ l.q ∧ l.q ≤ 65535)) := ⟨hp, hpl.symm, hN2, hw1, hl1, hw2, hl2, hli, hln, hq⟩
  obtain ⟨E, hE⟩ : ∃ E, E = evL was is_ n cc size ps := ⟨_, rfl⟩
  have HE : Hid (E = evL was is_ n cc size ps ∧ E.length = ps.length) := ⟨hE, by rw [hE]; unfold evL; rw [List.length_map, List.length_range]⟩
  have HB : Hid (∀ (i j : Nat) (x y : LI) (r : Int × Int), l2[i]? = some x → l2[j]? = some y → was.getD i false = true → was.getD j false = true → is_.getD i false = true → is_.getD j false = true → evP was is_ n cc size ps (i * n + j) = r → (0 ≤ r.1 ∧ r.1 ≤ 1000000000000) ∧ (0 ≤ r.2 ∧ r.2 ≤ 1000000000000) ∧ r.1 * y.q - r.2 * x.q ≤ 2 * (x.q * y.q) + 65535 * (x.q + y.q)) := hb
  have HPB : Hid (∀ x ∈ ps, (0 ≤ x.1 ∧ x.1 ≤ 1000000000000) ∧ (0 ≤ x.2 ∧ x.2 ≤ 1000000000000)) := hpb
  clear hp hw1 hl1 hw2 hl2 hli hln hq hb hpb hpl hN2 hE
  go_enter Try.func31, Try.ntmps31
  go_wp2_with fail
  go_loopw [13] (fun ix wr => ∃ i : Nat, ix = .int .i64 (i : Nat) ∧ i ≤ n ∧ Hid (GL 2 prL 106 wr base (.slice pa N2 pc) (evS E ps (i * n)) ∧ Ch (fun q => (Value.slice pa N2 pc).ownBlock = some q) w wr)) (fun ix _ => n - (intOf ix).toNat)
  case atStart => exact ⟨0, rfl, Nat.zero_le _, by rw [Nat.zero_mul]; exact HS.out.1, Ch.refl _ _⟩
  case round =>
    obtain ⟨i, rfl, hi, HI⟩ := hrel
    by_cases hini : i < n
    · have pi1 : decide ((i : Int) < (n : Int)) = true := decide_eq_true (by omega)
      have pi2 : decide (i < n) = true := decide_eq_true hini
      have ii0 : (0 : Int) ≤ (i : Int) := by omega
      have ii1 : (i : Int) < (n : Int) := by omega
      have ii2 : ((i : Int)).toNat = i := by omega
      have wi1 : IntKind.i64.wrap ((i : Int) + 1) = (i : Int) + 1 := i64_f _ (by omega) (by omega)
      obtain ⟨ni, hni⟩ : ∃ m, m = i * n := ⟨_, rfl⟩
      have hnib : ni ≤ 64 := by rw [hni]; exact Nat.le_trans (Nat.mul_le_mul (Nat.le_of_lt hini) (Nat.le_refl n)) (Nat.le_trans (Nat.mul_le_mul hn8 hn8) (by decide))
      have e0 : IntKind.i64.wrap ((i : Int) * (n : Int)) = (ni : Int) := by rw [show (i : Int) * (n : Int) = (ni : Int) by rw [hni]; simp]; exact i64_f _ (by omega) (by omega)
      have HNI : Hid (ni = i * n) := hni
      rw [← hni] at HI
      clear hni
      go_wp2_with fail
      go_loopw [14] (fun jx wr => ∃ j : Nat, jx = .int .i64 (j : Nat) ∧ j ≤ n ∧ Hid (GL 2 prL 106 wr base (.slice pa N2 pc) (evS E ps (ni + j)) ∧ Ch (fun q => (Value.slice pa N2 pc).ownBlock = some q) w wr)) (fun jx _ => n - (intOf jx).toNat)
      case atStart => exact ⟨0, rfl, Nat.zero_le _, HI.out.1, HI.out.2⟩
      case round =>
        clear HI
        obtain ⟨j, rfl, hj, HJ⟩ := hrel
        by_cases hinj : j < n
        · have pj1 : decide ((j : Int) < (n : Int)) = true := decide_eq_true (by omega)
          have pj2 : decide (j < n) = true := decide_eq_true hinj
          have ij0 : (0 : Int) ≤ (j : Int) := by omega
          have ij1 : (j : Int) < (n : Int) := by omega
          have ij2 : ((j : Int)).toNat = j := by omega
          have wj1 : IntKind.i64.wrap ((j : Int) + 1) = (j : Int) + 1 := i64_f _ (by omega) (by omega)
          obtain ⟨kk, hkke⟩ : ∃ m, m = ni + j := ⟨_, rfl⟩
          have e1 : IntKind.i64.wrap ((ni : Int) + (j : Int)) = (kk : Int) := by rw [show (ni : Int) + (j : Int) = (kk : Int) by omega]; exact i64_f _ (by omega) (by omega)
          have hkk : kk < N2 := by rw [HS.out.2.2.1, hkke, HNI.out]; exact idx_lt hini hinj
          have HKK : Hid (kk < ps.length ∧ kk = i * n + j) := ⟨by rw [HS.out.2.1]; exact hkk, by rw [hkke, HNI.out]⟩
          have HKN : Hid (ni + (j + 1) = kk + 1) := by show _ = _; omega
          rw [← hkke] at HJ
          clear hkke
          have k0 : (0 : Int) ≤ (kk : Int) := by omega
          have k1 : (kk : Int) < (N2 : Int) := by omega
          have k2 : ((kk : Int)).toNat = kk := by omega
          obtain ⟨pr, hpr⟩ : ∃ x, ps[kk]? = some x := ⟨_, List.getElem?_eq_getElem HKK.out.1⟩
          obtain ⟨gp, cap', hv, hgb, hg2, hgr⟩ := HJ.out.1.at prL_len kk pr (by rw [evS_at HE.out.2 HKK.out.1]; exact hpr)
          simp only [Value.slice.injEq] at hv
          obtain ⟨hga, hn_, hc_⟩ := hv
          clear hn_ hc_
          subst hga
          obtain ⟨xg, hxa, hxl, hxi, xcc, hxk⟩ := bl_at HS.out.2.2.2.1 (i := i) (by rw [HS.out.2.2.2.2.1]; exact hini)
          obtain ⟨xg', hxa', _, hxj, _⟩ := bl_at HS.out.2.2.2.1 (i := j) (by rw [HS.out.2.2.2.2.1]; exact hinj)
          obtain ⟨yg, hya, hyl, hyi, ycc, hyk⟩ := bl_at HS.out.2.2.2.2.2.1 (i := i) (by rw [HS.out.2.2.2.2.2.2.1]; exact hini)
          obtain ⟨yg', hya', _, hyj, _⟩ := bl_at HS.out.2.2.2.2.2.1 (i := j) (by rw [HS.out.2.2.2.2.2.2.1]; exact hinj)
          subst hxa
          subst hya
          simp only [Option.some.injEq, Addr.mk.injEq, and_true] at hxa' hya'
          subst hxa'
          subst hya'
          obtain ⟨x, hx⟩ : ∃ x, l2[i]? = some x := ⟨_, List.getElem?_eq_getElem (by rw [HS.out.2.2.2.2.2.2.2.2.1]; exact hini)⟩
          obtain ⟨y, hy⟩ : ∃ x, l2[j]? = some x := ⟨_, List.getElem?_eq_getElem (by rw [HS.out.2.2.2.2.2.2.2.2.1]; exact hinj)⟩
          obtain ⟨_, g, off, ha, hlt, hcx⟩ := HS.out.2.2.2.2.2.2.2.1.at i x hx
          obtain ⟨_, g', off', ha', _, hcy⟩ := HS.out.2.2.2.2.2.2.2.1.at j y hy
          subst ha
          simp only [Option.some.injEq, Addr.mk.injEq, and_true] at ha'
          obtain ⟨rfl, rfl⟩ := ha'
          obtain ⟨wi, hwi⟩ : ∃ b, b = was.getD i false := ⟨_, rfl⟩
          obtain ⟨wj, hwj⟩ : ∃ b, b = was.getD j false := ⟨_, rfl⟩
          obtain ⟨yi, hyie⟩ : ∃ b, b = is_.getD i false := ⟨_, rfl⟩
          obtain ⟨yj, hyje⟩ : ∃ b, b = is_.getD j false := ⟨_, rfl⟩
          obtain ⟨xq, hxq⟩ : ∃ q, x.q = q := ⟨_, rfl⟩
          obtain ⟨yq, hyq⟩ : ∃ q, y.q = q := ⟨_, rfl⟩
          have hgx : gp ≠ xg ∧ gp ≠ yg ∧ gp ≠ g := by
            obtain ⟨_, _, zc, hz⟩ := HS.out.1.kind gp rfl
            refine ⟨fun e => ?_, fun e => ?_, hlk g off rfl gp rfl⟩
            · rw [e, hxk] at hz; simp at hz
            · rw [e, hyk] at hz; simp at hz
          have HC : Hid (∀ A : World, Ch (fun q => (Value.slice (some ⟨gp, 0, none⟩) N2 pc).ownBlock = some q) w A → A.cell? ⟨xg, i, none⟩ = some (.bool wi) ∧ A.cell? ⟨xg, j, none⟩ = some (.bool wj) ∧ A.cell? ⟨yg, i, none⟩ = some (.bool yi) ∧ A.cell? ⟨yg, j, none⟩ = some (.bool yj) ∧ A.cell? ⟨g, off + i * 5, none⟩ = some (.int .i64 xq) ∧ A.cell? ⟨g, off + j * 5, none⟩ = some (.int .i64 yq)) := fun A hA => by
            have n1 : ¬ (Value.slice (some ⟨gp, 0, none⟩) N2 pc).ownBlock = some xg := fun e => by simp [Value.ownBlock] at e; exact hgx.1 e
            have n2 : ¬ (Value.slice (some ⟨gp, 0, none⟩) N2 pc).ownBlock = some yg := fun e => by simp [Value.ownBlock] at e; exact hgx.2.1 e
            have n3 : ¬ (Value.slice (some ⟨gp, 0, none⟩) N2 pc).ownBlock = some g := fun e => by simp [Value.ownBlock] at e; exact hgx.2.2 e
            have q1 := hcx 0 (by decide)
            have q2 := hcy 0 (by decide)
            rw [Nat.add_zero] at q1 q2
            have q1' : w.cell? ⟨g, off + i * 5, none⟩ = some (.int .i64 xq) := by rw [q1, ← hxq]; rfl
            have q2' : w.cell? ⟨g, off + j * 5, none⟩ = some (.int .i64 yq) := by rw [q2, ← hyq]; rfl
            rw [hwi, hwj, hyie, hyje]
            exact ⟨hA.cell hxi n1, hA.cell hxj n1, hA.cell hyi n2, hA.cell hyj n2, hA.cell q1' n3, hA.cell q2' n3⟩
          have HEV : Hid ((was.getD i false && (was.getD j false && (is_.getD i false && is_.getD j false))) = false → E[kk]? = some (0, 0)) := fun hf => by
            rw [HE.out.1]
            unfold evL
            rw [List.getElem?_map, List.getElem?_range HKK.out.1, Option.map_some]
            unfold evP
            rw [HKK.out.2, idx_div hinj, idx_mod hinj, hf]
            rfl
          have HET : Hid ((was.getD i false && (was.getD j false && (is_.getD i false && is_.getD j false))) = true → E[kk]? = some (pr.1 + (if i = cc then size else 0), pr.2 + (if j = cc then size else 0)) ∧ evP was is_ n cc size ps (i * n + j) = (pr.1 + (if i = cc then size else 0), pr.2 + (if j = cc then size else 0))) := fun hf => by
            have h1 : evP was is_ n cc size ps kk = (pr.1 + (if i = cc then size else 0), pr.2 + (if j = cc then size else 0)) := by
              unfold evP
              rw [HKK.out.2, idx_div hinj, idx_mod hinj, hf, if_pos rfl]
              have h2 : ps.getD (i * n + j) (0, 0) = pr := by rw [← HKK.out.2, List.getD, hpr]; rfl
              rw [h2]
            refine ⟨?_, by rw [← HKK.out.2]; exact h1⟩
            rw [HE.out.1]
            unfold evL
            rw [List.getElem?_map, List.getElem?_range HKK.out.1, Option.map_some, h1]
          have HF : Hid (wi = was.getD i false ∧ wj = was.getD j false ∧ yi = is_.getD i false ∧ yj = is_.getD j false ∧ l2[i]? = some x ∧ l2[j]? = some y ∧ x.q = xq ∧ y.q = yq ∧ ps[kk]? = some pr) := ⟨hwi, hwj, hyie, hyje, hx, hy, hxq, hyq, hpr⟩
          have HG : Hid (GL 2 prL 106 wr base (.slice (some ⟨gp, 0, none⟩) N2 pc) (evS E ps kk) ∧ Ch (fun q => (Value.slice (some ⟨gp, 0, none⟩) N2 pc).ownBlock = some q) w wr) := HJ.out
          have cA := (HC.out wr HJ.out.2).1
          have cB := (HC.out wr HJ.out.2).2.1
          have cC := (HC.out wr HJ.out.2).2.2.1
          have cD := (HC.out wr HJ.out.2).2.2.2.1
          clear hwi hwj hyie hyje hx hy hxq hyq hpr hgr hg2 hgb hxi hxj hyi hyj hcx hcy hgx hxk hyk hxl hyl hlt
          cases hwi : wi with
          | false =>
            rw [hwi] at cA HF
            go_upto_region 9 with fail
            go_upto_region 6 with (first | (refine wpList_bpz rfl rfl ?_) | (refine wpList_setG prL_len prL_one 106 info_pr (.tmp 63) (.tmp 62) rfl rfl base gp N2 pc (evS E ps kk) kk (kk * 2) (0, 0) rfl rfl rfl HG.out.1 hkk rfl ?_; intro w5 h5 k5))
            have H5 : Hid (GL 2 prL 106 w5 base (.slice (some ⟨gp, 0, none⟩) N2 pc) (evS E ps (kk + 1)) ∧ Ch (fun q => (Value.slice (some ⟨gp, 0, none⟩) N2 pc).ownBlock = some q) w w5) := by
              refine ⟨?_, HG.out.2.trans (k5.mono (T := fun q => (Value.slice (some ⟨gp, 0, none⟩) N2 pc).ownBlock = some q) (fun q _ e => by rw [e]; rfl)) (fun _ _ s => s)⟩
              rw [← evS_set HE.out.2 HKK.out.1 (x := (0, 0)) (HEV.out (by rw [← HF.out.1, Bool.false_and]))]
              exact h5
            clear h5 k5
            go_wp2
            go_roundw
            case rel => exact ⟨j + 1, by go_num, by omega, by rw [HKN.out]; exact H5.out.1, H5.out.2⟩
            case measure => simp [intOf]; omega
          | true =>
            rw [hwi] at cA HF
            cases hwj : wj with
            | false =>
              rw [hwj] at cB HF
              go_upto_region 9 with fail
              go_upto_region 6 with (first | (refine wpList_bpz rfl rfl ?_) | (refine wpList_setG prL_len prL_one 106 info_pr (.tmp 63) (.tmp 62) rfl rfl base gp N2 pc (evS E ps kk) kk (kk * 2) (0, 0) rfl rfl rfl HG.out.1 hkk rfl ?_; intro w5 h5 k5))
              have H5 : Hid (GL 2 prL 106 w5 base (.slice (some ⟨gp, 0, none⟩) N2 pc) (evS E ps (kk + 1)) ∧ Ch (fun q => (Value.slice (some ⟨gp, 0, none⟩) N2 pc).ownBlock = some q) w w5) := by
                refine ⟨?_, HG.out.2.trans (k5.mono (T := fun q => (Value.slice (some ⟨gp, 0, none⟩) N2 pc).ownBlock = some q) (fun q _ e => by rw [e]; rfl)) (fun _ _ s => s)⟩
                rw [← evS_set HE.out.2 HKK.out.1 (x := (0, 0)) (HEV.out (by rw [← HF.out.2.1, Bool.false_and, Bool.and_false]))]
                exact h5
              clear h5 k5
              go_wp2
              go_roundw
              case rel => exact ⟨j + 1, by go_num, by omega, by rw [HKN.out]; exact H5.out.1, H5.out.2⟩
              case measure => simp [intOf]; omega
            | true =>
              rw [hwj] at cB HF
              cases hyi : yi with
              | false =>
                rw [hyi] at cC HF
                go_upto_region 9 with fail
                go_upto_region 6 with (first | (refine wpList_bpz rfl rfl ?_) | (refine wpList_setG prL_len prL_one 106 info_pr (.tmp 63) (.tmp 62) rfl rfl base gp N2 pc (evS E ps kk) kk (kk * 2) (0, 0) rfl rfl rfl HG.out.1 hkk rfl ?_; intro w5 h5 k5))
                have H5 : Hid (GL 2 prL 106 w5 base (.slice (some ⟨gp, 0, none⟩) N2 pc) (evS E ps (kk + 1)) ∧ Ch (fun q => (Value.slice (some ⟨gp, 0, none⟩) N2 pc).ownBlock = some q) w w5) := by
                  refine ⟨?_, HG.out.2.trans (k5.mono (T := fun q => (Value.slice (some ⟨gp, 0, none⟩) N2 pc).ownBlock = some q) (fun q _ e => by rw [e]; rfl)) (fun _ _ s => s)⟩
                  rw [← evS_set HE.out.2 HKK.out.1 (x := (0, 0)) (HEV.out (by rw [← HF.out.2.2.1, Bool.false_and, Bool.and_false, Bool.and_false]))]
                  exact h5
                clear h5 k5
                go_wp2
                go_roundw
                case rel => exact ⟨j + 1, by go_num, by omega, by rw [HKN.out]; exact H5.out.1, H5.out.2⟩
                case measure => simp [intOf]; omega
              | true =>
                rw [hyi] at cC HF
                cases hyj : yj with
                | false =>
                  rw [hyj] at cD HF
                  go_upto_region 9 with fail
                  go_upto_region 6 with (first | (refine wpList_bpz rfl rfl ?_) | (refine wpList_setG prL_len prL_one 106 info_pr (.tmp 63) (.tmp 62) rfl rfl base gp N2 pc (evS E ps kk) kk (kk * 2) (0, 0) rfl rfl rfl HG.out.1 hkk rfl ?_; intro w5 h5 k5))
                  have H5 : Hid (GL 2 prL 106 w5 base (.slice (some ⟨gp, 0, none⟩) N2 pc) (evS E ps (kk + 1)) ∧ Ch (fun q => (Value.slice (some ⟨gp, 0, none⟩) N2 pc).ownBlock = some q) w w5) := by
                    refine ⟨?_, HG.out.2.trans (k5.mono (T := fun q => (Value.slice (some ⟨gp, 0, none⟩) N2 pc).ownBlock = some q) (fun q _ e => by rw [e]; rfl)) (fun _ _ s => s)⟩
                    rw [← evS_set HE.out.2 HKK.out.1 (x := (0, 0)) (HEV.out (by rw [← HF.out.2.2.2.1, Bool.and_false, Bool.and_false, Bool.and_false]))]
                    exact h5
                  clear h5 k5
                  go_wp2
                  go_roundw
                  case rel => exact ⟨j + 1, by go_num, by omega, by rw [HKN.out]; exact H5.out.1, H5.out.2⟩
                  case measure => simp [intOf]; omega
                | true =>
                  rw [hyj] at cD HF
                  obtain ⟨pA, pB⟩ := pr
                  have hE := HET.out (by rw [← HF.out.1, ← HF.out.2.1, ← HF.out.2.2.1, ← HF.out.2.2.2.1]; rfl)
                  have hps := HPB.out (pA, pB) (List.mem_of_getElem? HF.out.2.2.2.2.2.2.2.2)
                  have hbd := HB.out i j x y _ HF.out.2.2.2.2.1 HF.out.2.2.2.2.2.1 HF.out.1.symm HF.out.2.1.symm HF.out.2.2.1.symm HF.out.2.2.2.1.symm hE.2
                  have hqx := HS.out.2.2.2.2.2.2.2.2.2 x (List.mem_of_getElem? HF.out.2.2.2.2.1)
                  have hqy := HS.out.2.2.2.2.2.2.2.2.2 y (List.mem_of_getElem? HF.out.2.2.2.2.2.1)
                  rw [HF.out.2.2.2.2.2.2.1] at hqx hbd
                  rw [HF.out.2.2.2.2.2.2.2.1] at hqy hbd
                  have hEk := hE.1
                  clear hE
                  dsimp only at hps hbd hEk
                  have hat : (evS E ps kk)[kk]? = some (pA, pB) := by rw [evS_at HE.out.2 HKK.out.1]; exact HF.out.2.2.2.2.2.2.2.2
                  have HAT : Hid ((evS E ps kk)[kk]? = some (pA, pB)) := hat
                  clear hat
                  by_cases hic : i = cc
                  · rw [if_pos hic] at hEk hbd
                    have c1 : ((i : Int) == (cc : Int)) = true := by rw [hic]; exact beq_self_eq_true _
                    have c1' : (i == cc) = true := by rw [hic]; exact beq_self_eq_true _
                    have c1'' : decide (i = cc) = true := decide_eq_true hic
                    by_cases hjc : j = cc
                    · rw [if_pos hjc] at hEk hbd
                      have c2 : ((j : Int) == (cc : Int)) = true := by rw [hjc]; exact beq_self_eq_true _
                      have c2' : (j == cc) = true := by rw [hjc]; exact beq_self_eq_true _
                      have c2'' : decide (j = cc) = true := decide_eq_true hjc
                      clear hic hjc
                      have HEK : Hid (E[kk]? = some (pA + size, pB + size)) := hEk
                      clear hEk
                      have m1 : 0 ≤ (pA + size) * yq ∧ (pA + size) * yq ≤ 65535000000000000 := mul_v hbd.1 (by omega)
                      have m2 : 0 ≤ (pB + size) * xq ∧ (pB + size) * xq ≤ 65535000000000000 := mul_v hbd.2.1 (by omega)
                      have m3 : 0 ≤ (2 * xq) * yq ∧ (2 * xq) * yq ≤ 65535000000000000 := mul_v (by omega) (by omega)
                      have ws1 : IntKind.i64.wrap ((pA + size) * yq) = (pA + size) * yq := i64_e _ (by omega) (by omega)
                      have ws2 : IntKind.i64.wrap ((pB + size) * xq) = (pB + size) * xq := i64_e _ (by omega) (by omega)
                      have ws3 : IntKind.i64.wrap ((pA + size) * yq - (pB + size) * xq) = (pA + size) * yq - (pB + size) * xq := i64_e _ (by omega) (by omega)
                      have ws4 : IntKind.i64.wrap (2 * xq) = 2 * xq := i64_e _ (by omega) (by omega)
                      have ws5 : IntKind.i64.wrap (2 * xq * yq) = 2 * xq * yq := i64_e _ (by omega) (by omega)
                      have ws6 : IntKind.i64.wrap (xq + yq) = xq + yq := i64_e _ (by omega) (by omega)
                      have ws7 : IntKind.i64.wrap (65535 * (xq + yq)) = 65535 * (xq + yq) := i64_e _ (by omega) (by omega)
                      have ws8 : IntKind.i64.wrap (2 * xq * yq + 65535 * (xq + yq)) = 2 * xq * yq + 65535 * (xq + yq) := i64_e _ (by omega) (by omega)
                      have ws9 : decide (2 * xq * yq + 65535 * (xq + yq) < (pA + size) * yq - (pB + size) * xq) = false := decide_eq_false (by have h1 := hbd.2.2; rw [← Int.mul_assoc] at h1; omega)
                      have wa : IntKind.i64.wrap (pA + size) = pA + size := i64_e _ (by omega) (by omega)
                      have wb : IntKind.i64.wrap (pB + size) = pB + size := i64_e _ (by omega) (by omega)
                      clear m1 m2 m3 hbd hps hqx hqy
                      have cP := HG.out.1.range prL_len kk _ HAT.out 0 _ rfl
                      rw [Nat.add_zero] at cP
                      have zP := HG.out.1.frozen (kk * 2)
                      go_upto_region 12 with fail
                      clear cP zP
                      obtain ⟨wx, hwn⟩ : ∃ y, wr.setCell ⟨gp, kk * 2, none⟩ (.int .i64 (pA + size)) = y := ⟨_, rfl⟩
                      have Hwx : Hid (GL 2 prL 106 wx base (.slice (some ⟨gp, 0, none⟩) N2 pc) ((evS E ps kk).set kk (pA + size, pB)) ∧ Ch (fun q => (Value.slice (some ⟨gp, 0, none⟩) N2 pc).ownBlock = some q) w wx) := by
                        rw [← hwn]
                        refine ⟨by have h1 := HG.out.1.cell2 0 (by decide) (x' := (pA + size, pB)) (u := .int .i64 (pA + size)) HAT.out rfl; rwa [Nat.add_zero] at h1, HG.out.2.set ⟨gp, kk * 2, none⟩ _ rfl⟩
                      rw [hwn]
                      clear hwn
                      have HAT2 : Hid (((evS E ps kk).set kk (pA + size, pB))[kk]? = some (pA + size, pB)) := List.getElem?_set_self (by rw [evS_len HE.out.2]; exact HKK.out.1)
                      have cP := Hwx.out.1.range prL_len kk _ HAT2.out 1 _ rfl
                      skip
                      have zP := Hwx.out.1.frozen (kk * 2 + 1)
                      go_upto_region 14 with fail
                      clear cP zP
                      obtain ⟨wy, hwn⟩ : ∃ y, wx.setCell ⟨gp, kk * 2 + 1, none⟩ (.int .i64 (pB + size)) = y := ⟨_, rfl⟩
                      have Hwy : Hid (GL 2 prL 106 wy base (.slice (some ⟨gp, 0, none⟩) N2 pc) (((evS E ps kk).set kk (pA + size, pB)).set kk (pA + size, pB + size)) ∧ Ch (fun q => (Value.slice (some ⟨gp, 0, none⟩) N2 pc).ownBlock = some q) w wy) := by
                        rw [← hwn]
                        refine ⟨Hwx.out.1.cell2 1 (by decide) (x' := (pA + size, pB + size)) (u := .int .i64 (pB + size)) HAT2.out rfl, Hwx.out.2.set ⟨gp, kk * 2 + 1, none⟩ _ rfl⟩
                      rw [hwn]
                      clear hwn
                      have HZ : Hid (GL 2 prL 106 wy base (.slice (some ⟨gp, 0, none⟩) N2 pc) (evS E ps (kk + 1)) ∧ Ch (fun q => (Value.slice (some ⟨gp, 0, none⟩) N2 pc).ownBlock = some q) w wy) := by
                        refine ⟨?_, Hwy.out.2⟩
                        rw [← evS_set HE.out.2 HKK.out.1 HEK.out]
                        have h1 := Hwy.out.1
                        rw [List.set_set] at h1
                        skip
                        exact h1
                      skip
                      refine MixH.start (fun A => A.cell? ⟨gp, kk * 2, none⟩ = some (.int .i64 (pA + size)) ∧ A.cell? ⟨gp, kk * 2 + 1, none⟩ = some (.int .i64 (pB + size)) ∧ A.cell? ⟨g, off + i * 5, none⟩ = some (.int .i64 xq) ∧ A.cell? ⟨g, off + j * 5, none⟩ = some (.int .i64 yq)) (by kernel_rfl) ?_
                      obtain ⟨wA, hwA⟩ : ∃ W_, W_ = wy.drew := ⟨_, rfl⟩
                      have bdr : Below wy.heap.size wy wA := by rw [hwA]; exact (Below.refl _ _).drew
                      have HY : Hid (GL 2 prL 106 wA base (.slice (some ⟨gp, 0, none⟩) N2 pc) (evS E ps (kk + 1)) ∧ Ch (fun q => (Value.slice (some ⟨gp, 0, none⟩) N2 pc).ownBlock = some q) w wA) := ⟨HZ.out.1.below bdr, HZ.out.2.trans (Ch.ofBelow (S := fun q => (Value.slice (some ⟨gp, 0, none⟩) N2 pc).ownBlock = some q) bdr) (fun _ _ e => e)⟩
                      have hat2 : (evS E ps (kk + 1))[kk]? = some (pA + size, pB + size) := by rw [← evS_set HE.out.2 HKK.out.1 HEK.out]; exact List.getElem?_set_self (by rw [evS_len HE.out.2]; exact HKK.out.1)
                      have hS : wA.cell? ⟨gp, kk * 2, none⟩ = some (.int .i64 (pA + size)) ∧ wA.cell? ⟨gp, kk * 2 + 1, none⟩ = some (.int .i64 (pB + size)) ∧ wA.cell? ⟨g, off + i * 5, none⟩ = some (.int .i64 xq) ∧ wA.cell? ⟨g, off + j * 5, none⟩ = some (.int .i64 yq) := by
                        have q1 := HY.out.1.range prL_len kk _ hat2 0 _ rfl
                        have q2 := HY.out.1.range prL_len kk _ hat2 1 _ rfl
                        rw [Nat.add_zero] at q1
                        exact ⟨q1, q2, (HC.out _ HY.out.2).2.2.2.2.1, (HC.out _ HY.out.2).2.2.2.2.2⟩
                      clear hat2
                      rw [← hwA]
                      clear hwA bdr
                      refine MixH.takes [true, true, true, true, false, true, true, true, true, false, false, true, true, true, true, false, true, true, true, true, false, false, false, true, true, true, true, false, false, true, true, true, true, false, false, true, true, true, true, false, true, true, true, true] 17 (by kernel_rfl) (by kernel_rfl) (by decide) (by kernel_rfl) hS (fun K hK => ?_)
                      simp only [Mix.pick]
                      repeat (go_big_quiet_step (fail))
                      refine wpQuiet_nil (hK _ ?_)
                      clear hK K
                      refine MixH.take 16 4 _ (.int .i64 (pA + size)) rfl (by kernel_rfl) (by kernel_rfl) (by kernel_rfl) (by kernel_rfl) (yields_int (.tmp 95) rfl ⟨gp, kk * 2, none⟩ (.int .i64 (pA + size)) rfl rfl (fun A hA => hA.1)) hS (fun a' ha => ?_)
                      simp only [Act.put, List.setIfInBounds_toArray, List.set_cons_succ, List.set_cons_zero] at ha
                      subst ha
                      refine MixH.take 15 9 _ (.int .i64 yq) rfl (by kernel_rfl) (by kernel_rfl) (by kernel_rfl) (by kernel_rfl) (yields_int (.tmp 100) rfl ⟨g, off + j * 5, none⟩ (.int .i64 yq) rfl rfl (fun A hA => hA.2.2.2)) hS (fun a' ha => ?_)
                      simp only [Act.put, List.setIfInBounds_toArray, List.set_cons_succ, List.set_cons_zero] at ha
                      subst ha
                      refine MixH.takes [false, false, false, false, false, false, false, false, false, false, true] 14 (by kernel_rfl) (by kernel_rfl) (by decide) (by kernel_rfl) hS (fun K hK => ?_)
                      simp only [Mix.pick]
                      repeat (go_big_quiet_step (fail))
                      refine wpQuiet_nil (hK _ ?_)
                      clear hK K
                      refine MixH.take 13 15 _ (.int .i64 (pB + size)) rfl (by kernel_rfl) (by kernel_rfl) (by kernel_rfl) (by kernel_rfl) (yields_int (.tmp 106) rfl ⟨gp, kk * 2 + 1, none⟩ (.int .i64 (pB + size)) rfl rfl (fun A hA => hA.2.1)) hS (fun a' ha => ?_)
                      simp only [Act.put, List.setIfInBounds_toArray, List.set_cons_succ, List.set_cons_zero] at ha
                      subst ha
                      refine MixH.take 12 20 _ (.int .i64 xq) rfl (by kernel_rfl) (by kernel_rfl) (by kernel_rfl) (by kernel_rfl) (yields_int (.tmp 111) rfl ⟨g, off + i * 5, none⟩ (.int .i64 xq) rfl rfl (fun A hA => hA.2.2.1)) hS (fun a' ha => ?_)
                      simp only [Act.put, List.setIfInBounds_toArray, List.set_cons_succ, List.set_cons_zero] at ha
                      subst ha
                      refine MixH.takes [false, false, false, false, false, false, false, false, false, false, false, false, false, false, false, false, false, false, false, false, false, true, true] 10 (by kernel_rfl) (by kernel_rfl) (by decide) (by kernel_rfl) hS (fun K hK => ?_)
                      simp only [Mix.pick]
                      repeat (go_big_quiet_step (fail))
                      refine wpQuiet_nil (hK _ ?_)
                      clear hK K
                      refine MixH.take 9 27 _ (.int .i64 xq) rfl (by kernel_rfl) (by kernel_rfl) (by kernel_rfl) (by kernel_rfl) (yields_int (.tmp 118) rfl ⟨g, off + i * 5, none⟩ (.int .i64 xq) rfl rfl (fun A hA => hA.2.2.1)) hS (fun a' ha => ?_)
                      simp only [Act.put, List.setIfInBounds_toArray, List.set_cons_succ, List.set_cons_zero] at ha
                      subst ha
                      refine MixH.takes [false, false, false, false, false, false, false, false, false, false, false, false, false, false, false, false, false, false, false, false, false, false, false, false, false, false, false, false, true] 8 (by kernel_rfl) (by kernel_rfl) (by decide) (by kernel_rfl) hS (fun K hK => ?_)
                      simp only [Mix.pick]
                      repeat (go_big_quiet_step (fail))
                      refine wpQuiet_nil (hK _ ?_)
                      clear hK K
                      refine MixH.take 7 33 _ (.int .i64 yq) rfl (by kernel_rfl) (by kernel_rfl) (by kernel_rfl) (by kernel_rfl) (yields_int (.tmp 124) rfl ⟨g, off + j * 5, none⟩ (.int .i64 yq) rfl rfl (fun A hA => hA.2.2.2)) hS (fun a' ha => ?_)
                      simp only [Act.put, List.setIfInBounds_toArray, List.set_cons_succ, List.set_cons_zero] at ha
                      subst ha
                      refine MixH.takes [false, false, false, false, false, false, false, false, false, false, false, false, false, false, false, false, false, false, false, false, false, false, false, false, false, false, false, false, false, false, false, false, false, false, true] 6 (by kernel_rfl) (by kernel_rfl) (by decide) (by kernel_rfl) hS (fun K hK => ?_)
                      simp only [Mix.pick]
                      repeat (go_big_quiet_step (fail))
                      refine wpQuiet_nil (hK _ ?_)
                      clear hK K
                      refine MixH.take 5 39 _ (.int .i64 xq) rfl (by kernel_rfl) (by kernel_rfl) (by kernel_rfl) (by kernel_rfl) (yields_int (.tmp 130) rfl ⟨g, off + i * 5, none⟩ (.int .i64 xq) rfl rfl (fun A hA => hA.2.2.1)) hS (fun a' ha => ?_)
                      simp only [Act.put, List.setIfInBounds_toArray, List.set_cons_succ, List.set_cons_zero] at ha
                      subst ha
                      refine MixH.take 4 44 _ (.int .i64 yq) rfl (by kernel_rfl) (by kernel_rfl) (by kernel_rfl) (by kernel_rfl) (yields_int (.tmp 135) rfl ⟨g, off + j * 5, none⟩ (.int .i64 yq) rfl rfl (fun A hA => hA.2.2.2)) hS (fun a' ha => ?_)
                      simp only [Act.put, List.setIfInBounds_toArray, List.set_cons_succ, List.set_cons_zero] at ha
                      subst ha
                      refine MixH.takes [false, false, false, false, false, false, false, false, false, false, false, false, false, false, false, false, false, false, false, false, false, false, false, false, false, false, false, false, false, false, false, false, false, false, false, false, false, false, false, false, false, false, false, false, false, true, true, true, true] 0 (by kernel_rfl) (by kernel_rfl) (by decide) (by kernel_rfl) hS (fun K hK => ?_)
                      simp only [Mix.pick]
                      repeat (go_big_quiet_step (fail))
                      refine wpQuiet_nil (hK _ ?_)
                      clear hK K
                      refine MixH.done (by kernel_rfl) ?_
                      clear hS
                      go_wp2_with fail
                      go_roundw
                      case rel => exact ⟨j + 1, by go_num, by omega, by rw [HKN.out]; exact HY.out.1, HY.out.2⟩
                      case measure => simp [intOf]; omega
                    · rw [if_neg hjc] at hEk hbd
                      have c2 : ((j : Int) == (cc : Int)) = false := beq_eq_false_iff_ne.2 (by omega)
                      have c2' : (j == cc) = false := beq_eq_false_iff_ne.2 (by omega)
                      have c2'' : decide (j = cc) = false := decide_eq_false hjc
                      clear hic hjc
                      simp only [Int.add_zero] at hEk hbd
                      have HEK : Hid (E[kk]? = some (pA + size, pB)) := hEk
                      clear hEk
                      have m1 : 0 ≤ (pA + size) * yq ∧ (pA + size) * yq ≤ 65535000000000000 := mul_v hbd.1 (by omega)
                      have m2 : 0 ≤ (pB) * xq ∧ (pB) * xq ≤ 65535000000000000 := mul_v hbd.2.1 (by omega)
                      have m3 : 0 ≤ (2 * xq) * yq ∧ (2 * xq) * yq ≤ 65535000000000000 := mul_v (by omega) (by omega)
                      have ws1 : IntKind.i64.wrap ((pA + size) * yq) = (pA + size) * yq := i64_e _ (by omega) (by omega)
                      have ws2 : IntKind.i64.wrap ((pB) * xq) = (pB) * xq := i64_e _ (by omega) (by omega)
                      have ws3 : IntKind.i64.wrap ((pA + size) * yq - (pB) * xq) = (pA + size) * yq - (pB) * xq := i64_e _ (by omega) (by omega)
                      have ws4 : IntKind.i64.wrap (2 * xq) = 2 * xq := i64_e _ (by omega) (by omega)
                      have ws5 : IntKind.i64.wrap (2 * xq * yq) = 2 * xq * yq := i64_e _ (by omega) (by omega)
                      have ws6 : IntKind.i64.wrap (xq + yq) = xq + yq := i64_e _ (by omega) (by omega)
                      have ws7 : IntKind.i64.wrap (65535 * (xq + yq)) = 65535 * (xq + yq) := i64_e _ (by omega) (by omega)
                      have ws8 : IntKind.i64.wrap (2 * xq * yq + 65535 * (xq + yq)) = 2 * xq * yq + 65535 * (xq + yq) := i64_e _ (by omega) (by omega)
                      have ws9 : decide (2 * xq * yq + 65535 * (xq + yq) < (pA + size) * yq - (pB) * xq) = false := decide_eq_false (by have h1 := hbd.2.2; rw [← Int.mul_assoc] at h1; omega)
                      have wa : IntKind.i64.wrap (pA + size) = pA + size := i64_e _ (by omega) (by omega)
                      have wb : IntKind.i64.wrap (pB + size) = pB + size := i64_e _ (by omega) (by omega)
                      clear m1 m2 m3 hbd hps hqx hqy
                      have cP := HG.out.1.range prL_len kk _ HAT.out 0 _ rfl
                      rw [Nat.add_zero] at cP
                      have zP := HG.out.1.frozen (kk * 2)
                      go_upto_region 12 with fail
                      clear cP zP
                      obtain ⟨wx, hwn⟩ : ∃ y, wr.setCell ⟨gp, kk * 2, none⟩ (.int .i64 (pA + size)) = y := ⟨_, rfl⟩
                      have Hwx : Hid (GL 2 prL 106 wx base (.slice (some ⟨gp, 0, none⟩) N2 pc) ((evS E ps kk).set kk (pA + size, pB)) ∧ Ch (fun q => (Value.slice (some ⟨gp, 0, none⟩) N2 pc).ownBlock = some q) w wx) := by
                        rw [← hwn]
                        refine ⟨by have h1 := HG.out.1.cell2 0 (by decide) (x' := (pA + size, pB)) (u := .int .i64 (pA + size)) HAT.out rfl; rwa [Nat.add_zero] at h1, HG.out.2.set ⟨gp, kk * 2, none⟩ _ rfl⟩
                      rw [hwn]
                      clear hwn
                      have HAT2 : Hid (((evS E ps kk).set kk (pA + size, pB))[kk]? = some (pA + size, pB)) := List.getElem?_set_self (by rw [evS_len HE.out.2]; exact HKK.out.1)
                      have HZ : Hid (GL 2 prL 106 wx base (.slice (some ⟨gp, 0, none⟩) N2 pc) (evS E ps (kk + 1)) ∧ Ch (fun q => (Value.slice (some ⟨gp, 0, none⟩) N2 pc).ownBlock = some q) w wx) := by
                        refine ⟨?_, Hwx.out.2⟩
                        rw [← evS_set HE.out.2 HKK.out.1 HEK.out]
                        have h1 := Hwx.out.1
                        skip
                        skip
                        exact h1
                      go_upto_region 14 with fail
                      refine MixH.start (fun A => A.cell? ⟨gp, kk * 2, none⟩ = some (.int .i64 (pA + size)) ∧ A.cell? ⟨gp, kk * 2 + 1, none⟩ = some (.int .i64 (pB)) ∧ A.cell? ⟨g, off + i * 5, none⟩ = some (.int .i64 xq) ∧ A.cell? ⟨g, off + j * 5, none⟩ = some (.int .i64 yq)) (by kernel_rfl) ?_
                      obtain ⟨wA, hwA⟩ : ∃ W_, W_ = wx.drew := ⟨_, rfl⟩
                      have bdr : Below wx.heap.size wx wA := by rw [hwA]; exact (Below.refl _ _).drew
                      have HY : Hid (GL 2 prL 106 wA base (.slice (some ⟨gp, 0, none⟩) N2 pc) (evS E ps (kk + 1)) ∧ Ch (fun q => (Value.slice (some ⟨gp, 0, none⟩) N2 pc).ownBlock = some q) w wA) := ⟨HZ.out.1.below bdr, HZ.out.2.trans (Ch.ofBelow (S := fun q => (Value.slice (some ⟨gp, 0, none⟩) N2 pc).ownBlock = some q) bdr) (fun _ _ e => e)⟩
                      have hat2 : (evS E ps (kk + 1))[kk]? = some (pA + size, pB) := by rw [← evS_set HE.out.2 HKK.out.1 HEK.out]; exact List.getElem?_set_self (by rw [evS_len HE.out.2]; exact HKK.out.1)
                      have hS : wA.cell? ⟨gp, kk * 2, none⟩ = some (.int .i64 (pA + size)) ∧ wA.cell? ⟨gp, kk * 2 + 1, none⟩ = some (.int .i64 (pB)) ∧ wA.cell? ⟨g, off + i * 5, none⟩ = some (.int .i64 xq) ∧ wA.cell? ⟨g, off + j * 5, none⟩ = some (.int .i64 yq) := by
                        have q1 := HY.out.1.range prL_len kk _ hat2 0 _ rfl
                        have q2 := HY.out.1.range prL_len kk _ hat2 1 _ rfl
                        rw [Nat.add_zero] at q1
                        exact ⟨q1, q2, (HC.out _ HY.out.2).2.2.2.2.1, (HC.out _ HY.out.2).2.2.2.2.2⟩
                      clear hat2
                      rw [← hwA]
                      clear hwA bdr
                      refine MixH.takes [true, true, true, true, false, true, true, true, true, false, false, true, true, true, true, false, true, true, true, true, false, false, false, true, true, true, true, false, false, true, true, true, true, false, false, true, true, true, true, false, true, true, true, true] 17 (by kernel_rfl) (by kernel_rfl) (by decide) (by kernel_rfl) hS (fun K hK => ?_)
                      simp only [Mix.pick]
                      repeat (go_big_quiet_step (fail))
                      refine wpQuiet_nil (hK _ ?_)
                      clear hK K
                      refine MixH.take 16 4 _ (.int .i64 (pA + size)) rfl (by kernel_rfl) (by kernel_rfl) (by kernel_rfl) (by kernel_rfl) (yields_int (.tmp 95) rfl ⟨gp, kk * 2, none⟩ (.int .i64 (pA + size)) rfl rfl (fun A hA => hA.1)) hS (fun a' ha => ?_)
                      simp only [Act.put, List.setIfInBounds_toArray, List.set_cons_succ, List.set_cons_zero] at ha
                      subst ha
                      refine MixH.take 15 9 _ (.int .i64 yq) rfl (by kernel_rfl) (by kernel_rfl) (by kernel_rfl) (by kernel_rfl) (yields_int (.tmp 100) rfl ⟨g, off + j * 5, none⟩ (.int .i64 yq) rfl rfl (fun A hA => hA.2.2.2)) hS (fun a' ha => ?_)
                      simp only [Act.put, List.setIfInBounds_toArray, List.set_cons_succ, List.set_cons_zero] at ha
                      subst ha
                      refine MixH.takes [false, false, false, false, false, false, false, false, false, false, true] 14 (by kernel_rfl) (by kernel_rfl) (by decide) (by kernel_rfl) hS (fun K hK => ?_)
                      simp only [Mix.pick]
                      repeat (go_big_quiet_step (fail))
                      refine wpQuiet_nil (hK _ ?_)
                      clear hK K
                      refine MixH.take 13 15 _ (.int .i64 (pB)) rfl (by kernel_rfl) (by kernel_rfl) (by kernel_rfl) (by kernel_rfl) (yields_int (.tmp 106) rfl ⟨gp, kk * 2 + 1, none⟩ (.int .i64 (pB)) rfl rfl (fun A hA => hA.2.1)) hS (fun a' ha => ?_)
                      simp only [Act.put, List.setIfInBounds_toArray, List.set_cons_succ, List.set_cons_zero] at ha
                      subst ha
                      refine MixH.take 12 20 _ (.int .i64 xq) rfl (by kernel_rfl) (by kernel_rfl) (by kernel_rfl) (by kernel_rfl) (yields_int (.tmp 111) rfl ⟨g, off + i * 5, none⟩ (.int .i64 xq) rfl rfl (fun A hA => hA.2.2.1)) hS (fun a' ha => ?_)
                      simp only [Act.put, List.setIfInBounds_toArray, List.set_cons_succ, List.set_cons_zero] at ha
                      subst ha
                      refine MixH.takes [false, false, false, false, false, false, false, false, false, false, false, false, false, false, false, false, false, false, false, false, false, true, true] 10 (by kernel_rfl) (by kernel_rfl) (by decide) (by kernel_rfl) hS (fun K hK => ?_)
                      simp only [Mix.pick]
                      repeat (go_big_quiet_step (fail))
                      refine wpQuiet_nil (hK _ ?_)
                      clear hK K
                      refine MixH.take 9 27 _ (.int .i64 xq) rfl (by kernel_rfl) (by kernel_rfl) (by kernel_rfl) (by kernel_rfl) (yields_int (.tmp 118) rfl ⟨g, off + i * 5, none⟩ (.int .i64 xq) rfl rfl (fun A hA => hA.2.2.1)) hS (fun a' ha => ?_)
                      simp only [Act.put, List.setIfInBounds_toArray, List.set_cons_succ, List.set_cons_zero] at ha
                      subst ha
                      refine MixH.takes [false, false, false, false, false, false, false, false, false, false, false, false, false, false, false, false, false, false, false, false, false, false, false, false, false, false, false, false, true] 8 (by kernel_rfl) (by kernel_rfl) (by decide) (by kernel_rfl) hS (fun K hK => ?_)
                      simp only [Mix.pick]
                      repeat (go_big_quiet_step (fail))
                      refine wpQuiet_nil (hK _ ?_)
                      clear hK K
                      refine MixH.take 7 33 _ (.int .i64 yq) rfl (by kernel_rfl) (by kernel_rfl) (by kernel_rfl) (by kernel_rfl) (yields_int (.tmp 124) rfl ⟨g, off + j * 5, none⟩ (.int .i64 yq) rfl rfl (fun A hA => hA.2.2.2)) hS (fun a' ha => ?_)
                      simp only [Act.put, List.setIfInBounds_toArray, List.set_cons_succ, List.set_cons_zero] at ha
                      subst ha
                      refine MixH.takes [false, false, false, false, false, false, false, false, false, false, false, false, false, false, false, false, false, false, false, false, false, false, false, false, false, false, false, false, false, false, false, false, false, false, true] 6 (by kernel_rfl) (by kernel_rfl) (by decide) (by kernel_rfl) hS (fun K hK => ?_)
                      simp only [Mix.pick]
                      repeat (go_big_quiet_step (fail))
                      refine wpQuiet_nil (hK _ ?_)
                      clear hK K
                      refine MixH.take 5 39 _ (.int .i64 xq) rfl (by kernel_rfl) (by kernel_rfl) (by kernel_rfl) (by kernel_rfl) (yields_int (.tmp 130) rfl ⟨g, off + i * 5, none⟩ (.int .i64 xq) rfl rfl (fun A hA => hA.2.2.1)) hS (fun a' ha => ?_)
                      simp only [Act.put, List.setIfInBounds_toArray, List.set_cons_succ, List.set_cons_zero] at ha
                      subst ha
                      refine MixH.take 4 44 _ (.int .i64 yq) rfl (by kernel_rfl) (by kernel_rfl) (by kernel_rfl) (by kernel_rfl) (yields_int (.tmp 135) rfl ⟨g, off + j * 5, none⟩ (.int .i64 yq) rfl rfl (fun A hA => hA.2.2.2)) hS (fun a' ha => ?_)
                      simp only [Act.put, List.setIfInBounds_toArray, List.set_cons_succ, List.set_cons_zero] at ha
                      subst ha
                      refine MixH.takes [false, false, false, false, false, false, false, false, false, false, false, false, false, false, false, false, false, false, false, false, false, false, false, false, false, false, false, false, false, false, false, false, false, false, false, false, false, false, false, false, false, false, false, false, false, true, true, true, true] 0 (by kernel_rfl) (by kernel_rfl) (by decide) (by kernel_rfl) hS (fun K hK => ?_)
                      simp only [Mix.pick]
                      repeat (go_big_quiet_step (fail))
                      refine wpQuiet_nil (hK _ ?_)
                      clear hK K
                      refine MixH.done (by kernel_rfl) ?_
                      clear hS
                      go_wp2_with fail
                      go_roundw
                      case rel => exact ⟨j + 1, by go_num, by omega, by rw [HKN.out]; exact HY.out.1, HY.out.2⟩
                      case measure => simp [intOf]; omega
                  · rw [if_neg hic] at hEk hbd
                    have c1 : ((i : Int) == (cc : Int)) = false := beq_eq_false_iff_ne.2 (by omega)
                    have c1' : (i == cc) = false := beq_eq_false_iff_ne.2 (by omega)
                    have c1'' : decide (i = cc) = false := decide_eq_false hic
                    by_cases hjc : j = cc
                    · rw [if_pos hjc] at hEk hbd
                      have c2 : ((j : Int) == (cc : Int)) = true := by rw [hjc]; exact beq_self_eq_true _
                      have c2' : (j == cc) = true := by rw [hjc]; exact beq_self_eq_true _
                      have c2'' : decide (j = cc) = true := decide_eq_true hjc
                      clear hic hjc
                      simp only [Int.add_zero] at hEk hbd
                      have HEK : Hid (E[kk]? = some (pA, pB + size)) := hEk
                      clear hEk
                      have m1 : 0 ≤ (pA) * yq ∧ (pA) * yq ≤ 65535000000000000 := mul_v hbd.1 (by omega)
                      have m2 : 0 ≤ (pB + size) * xq ∧ (pB + size) * xq ≤ 65535000000000000 := mul_v hbd.2.1 (by omega)
                      have m3 : 0 ≤ (2 * xq) * yq ∧ (2 * xq) * yq ≤ 65535000000000000 := mul_v (by omega) (by omega)
                      have ws1 : IntKind.i64.wrap ((pA) * yq) = (pA) * yq := i64_e _ (by omega) (by omega)
                      have ws2 : IntKind.i64.wrap ((pB + size) * xq) = (pB + size) * xq := i64_e _ (by omega) (by omega)
                      have ws3 : IntKind.i64.wrap ((pA) * yq - (pB + size) * xq) = (pA) * yq - (pB + size) * xq := i64_e _ (by omega) (by omega)
                      have ws4 : IntKind.i64.wrap (2 * xq) = 2 * xq := i64_e _ (by omega) (by omega)
                      have ws5 : IntKind.i64.wrap (2 * xq * yq) = 2 * xq * yq := i64_e _ (by omega) (by omega)
                      have ws6 : IntKind.i64.wrap (xq + yq) = xq + yq := i64_e _ (by omega) (by omega)
                      have ws7 : IntKind.i64.wrap (65535 * (xq + yq)) = 65535 * (xq + yq) := i64_e _ (by omega) (by omega)
                      have ws8 : IntKind.i64.wrap (2 * xq * yq + 65535 * (xq + yq)) = 2 * xq * yq + 65535 * (xq + yq) := i64_e _ (by omega) (by omega)
                      have ws9 : decide (2 * xq * yq + 65535 * (xq + yq) < (pA) * yq - (pB + size) * xq) = false := decide_eq_false (by have h1 := hbd.2.2; rw [← Int.mul_assoc] at h1; omega)
                      have wa : IntKind.i64.wrap (pA + size) = pA + size := i64_e _ (by omega) (by omega)
                      have wb : IntKind.i64.wrap (pB + size) = pB + size := i64_e _ (by omega) (by omega)
                      clear m1 m2 m3 hbd hps hqx hqy
                      have cP := HG.out.1.range prL_len kk _ HAT.out 1 _ rfl
                      skip
                      have zP := HG.out.1.frozen (kk * 2 + 1)
                      go_upto_region 14 with fail
                      clear cP zP
                      obtain ⟨wy, hwn⟩ : ∃ y, wr.setCell ⟨gp, kk * 2 + 1, none⟩ (.int .i64 (pB + size)) = y := ⟨_, rfl⟩
                      have Hwy : Hid (GL 2 prL 106 wy base (.slice (some ⟨gp, 0, none⟩) N2 pc) (((evS E ps kk)).set kk (pA, pB + size)) ∧ Ch (fun q => (Value.slice (some ⟨gp, 0, none⟩) N2 pc).ownBlock = some q) w wy) := by
                        rw [← hwn]
                        refine ⟨HG.out.1.cell2 1 (by decide) (x' := (pA, pB + size)) (u := .int .i64 (pB + size)) HAT.out rfl, HG.out.2.set ⟨gp, kk * 2 + 1, none⟩ _ rfl⟩
                      rw [hwn]
                      clear hwn
                      have HZ : Hid (GL 2 prL 106 wy base (.slice (some ⟨gp, 0, none⟩) N2 pc) (evS E ps (kk + 1)) ∧ Ch (fun q => (Value.slice (some ⟨gp, 0, none⟩) N2 pc).ownBlock = some q) w wy) := by
                        refine ⟨?_, Hwy.out.2⟩
                        rw [← evS_set HE.out.2 HKK.out.1 HEK.out]
                        have h1 := Hwy.out.1
                        skip
                        skip
                        exact h1
                      skip
                      refine MixH.start (fun A => A.cell? ⟨gp, kk * 2, none⟩ = some (.int .i64 (pA)) ∧ A.cell? ⟨gp, kk * 2 + 1, none⟩ = some (.int .i64 (pB + size)) ∧ A.cell? ⟨g, off + i * 5, none⟩ = some (.int .i64 xq) ∧ A.cell? ⟨g, off + j * 5, none⟩ = some (.int .i64 yq)) (by kernel_rfl) ?_
                      obtain ⟨wA, hwA⟩ : ∃ W_, W_ = wy.drew := ⟨_, rfl⟩
                      have bdr : Below wy.heap.size wy wA := by rw [hwA]; exact (Below.refl _ _).drew
                      have HY : Hid (GL 2 prL 106 wA base (.slice (some ⟨gp, 0, none⟩) N2 pc) (evS E ps (kk + 1)) ∧ Ch (fun q => (Value.slice (some ⟨gp, 0, none⟩) N2 pc).ownBlock = some q) w wA) := ⟨HZ.out.1.below bdr, HZ.out.2.trans (Ch.ofBelow (S := fun q => (Value.slice (some ⟨gp, 0, none⟩) N2 pc).ownBlock = some q) bdr) (fun _ _ e => e)⟩
                      have hat2 : (evS E ps (kk + 1))[kk]? = some (pA, pB + size) := by rw [← evS_set HE.out.2 HKK.out.1 HEK.out]; exact List.getElem?_set_self (by rw [evS_len HE.out.2]; exact HKK.out.1)
                      have hS : wA.cell? ⟨gp, kk * 2, none⟩ = some (.int .i64 (pA)) ∧ wA.cell? ⟨gp, kk * 2 + 1, none⟩ = some (.int .i64 (pB + size)) ∧ wA.cell? ⟨g, off + i * 5, none⟩ = some (.int .i64 xq) ∧ wA.cell? ⟨g, off + j * 5, none⟩ = some (.int .i64 yq) := by
                        have q1 := HY.out.1.range prL_len kk _ hat2 0 _ rfl
                        have q2 := HY.out.1.range prL_len kk _ hat2 1 _ rfl
                        rw [Nat.add_zero] at q1
                        exact ⟨q1, q2, (HC.out _ HY.out.2).2.2.2.2.1, (HC.out _ HY.out.2).2.2.2.2.2⟩
                      clear hat2
                      rw [← hwA]
                      clear hwA bdr
                      refine MixH.takes [true, true, true, true, false, true, true, true, true, false, false, true, true, true, true, false, true, true, true, true, false, false, false, true, true, true, true, false, false, true, true, true, true, false, false, true, true, true, true, false, true, true, true, true] 17 (by kernel_rfl) (by kernel_rfl) (by decide) (by kernel_rfl) hS (fun K hK => ?_)
                      simp only [Mix.pick]
                      repeat (go_big_quiet_step (fail))
                      refine wpQuiet_nil (hK _ ?_)
                      clear hK K
                      refine MixH.take 16 4 _ (.int .i64 (pA)) rfl (by kernel_rfl) (by kernel_rfl) (by kernel_rfl) (by kernel_rfl) (yields_int (.tmp 95) rfl ⟨gp, kk * 2, none⟩ (.int .i64 (pA)) rfl rfl (fun A hA => hA.1)) hS (fun a' ha => ?_)
                      simp only [Act.put, List.setIfInBounds_toArray, List.set_cons_succ, List.set_cons_zero] at ha
                      subst ha
                      refine MixH.take 15 9 _ (.int .i64 yq) rfl (by kernel_rfl) (by kernel_rfl) (by kernel_rfl) (by kernel_rfl) (yields_int (.tmp 100) rfl ⟨g, off + j * 5, none⟩ (.int .i64 yq) rfl rfl (fun A hA => hA.2.2.2)) hS (fun a' ha => ?_)
                      simp only [Act.put, List.setIfInBounds_toArray, List.set_cons_succ, List.set_cons_zero] at ha
                      subst ha
                      refine MixH.takes [false, false, false, false, false, false, false, false, false, false, true] 14 (by kernel_rfl) (by kernel_rfl) (by decide) (by kernel_rfl) hS (fun K hK => ?_)
                      simp only [Mix.pick]
                      repeat (go_big_quiet_step (fail))
                      refine wpQuiet_nil (hK _ ?_)
                      clear hK K
                      refine MixH.take 13 15 _ (.int .i64 (pB + size)) rfl (by kernel_rfl) (by kernel_rfl) (by kernel_rfl) (by kernel_rfl) (yields_int (.tmp 106) rfl ⟨gp, kk * 2 + 1, none⟩ (.int .i64 (pB + size)) rfl rfl (fun A hA => hA.2.1)) hS (fun a' ha => ?_)
                      simp only [Act.put, List.setIfInBounds_toArray, List.set_cons_succ, List.set_cons_zero] at ha
                      subst ha
                      refine MixH.take 12 20 _ (.int .i64 xq) rfl (by kernel_rfl) (by kernel_rfl) (by kernel_rfl) (by kernel_rfl) (yields_int (.tmp 111) rfl ⟨g, off + i * 5, none⟩ (.int .i64 xq) rfl rfl (fun A hA => hA.2.2.1)) hS (fun a' ha => ?_)
                      simp only [Act.put, List.setIfInBounds_toArray, List.set_cons_succ, List.set_cons_zero] at ha
                      subst ha
                      refine MixH.takes [false, false, false, false, false, false, false, false, false, false, false, false, false, false, false, false, false, false, false, false, false, true, true] 10 (by kernel_rfl) (by kernel_rfl) (by decide) (by kernel_rfl) hS (fun K hK => ?_)
                      simp only [Mix.pick]
                      repeat (go_big_quiet_step (fail))
                      refine wpQuiet_nil (hK _ ?_)
                      clear hK K
                      refine MixH.take 9 27 _ (.int .i64 xq) rfl (by kernel_rfl) (by kernel_rfl) (by kernel_rfl) (by kernel_rfl) (yields_int (.tmp 118) rfl ⟨g, off + i * 5, none⟩ (.int .i64 xq) rfl rfl (fun A hA => hA.2.2.1)) hS (fun a' ha => ?_)
                      simp only [Act.put, List.setIfInBounds_toArray, List.set_cons_succ, List.set_cons_zero] at ha
                      subst ha
                      refine MixH.takes [false, false, false, false, false, false, false, false, false, false, false, false, false, false, false, false, false, false, false, false, false, false, false, false, false, false, false, false, true] 8 (by kernel_rfl) (by kernel_rfl) (by decide) (by kernel_rfl) hS (fun K hK => ?_)
                      simp only [Mix.pick]
                      repeat (go_big_quiet_step (fail))
                      refine wpQuiet_nil (hK _ ?_)
                      clear hK K
                      refine MixH.take 7 33 _ (.int .i64 yq) rfl (by kernel_rfl) (by kernel_rfl) (by kernel_rfl) (by kernel_rfl) (yields_int (.tmp 124) rfl ⟨g, off + j * 5, none⟩ (.int .i64 yq) rfl rfl (fun A hA => hA.2.2.2)) hS (fun a' ha => ?_)
                      simp only [Act.put, List.setIfInBounds_toArray, List.set_cons_succ, List.set_cons_zero] at ha
                      subst ha
                      refine MixH.takes [false, false, false, false, false, false, false, false, false, false, false, false, false, false, false, false, false, false, false, false, false, false, false, false, false, false, false, false, false, false, false, false, false, false, true] 6 (by kernel_rfl) (by kernel_rfl) (by decide) (by kernel_rfl) hS (fun K hK => ?_)
                      simp only [Mix.pick]
                      repeat (go_big_quiet_step (fail))
                      refine wpQuiet_nil (hK _ ?_)
                      clear hK K
                      refine MixH.take 5 39 _ (.int .i64 xq) rfl (by kernel_rfl) (by kernel_rfl) (by kernel_rfl) (by kernel_rfl) (yields_int (.tmp 130) rfl ⟨g, off + i * 5, none⟩ (.int .i64 xq) rfl rfl (fun A hA => hA.2.2.1)) hS (fun a' ha => ?_)
                      simp only [Act.put, List.setIfInBounds_toArray, List.set_cons_succ, List.set_cons_zero] at ha
                      subst ha
                      refine MixH.take 4 44 _ (.int .i64 yq) rfl (by kernel_rfl) (by kernel_rfl) (by kernel_rfl) (by kernel_rfl) (yields_int (.tmp 135) rfl ⟨g, off + j * 5, none⟩ (.int .i64 yq) rfl rfl (fun A hA => hA.2.2.2)) hS (fun a' ha => ?_)
                      simp only [Act.put, List.setIfInBounds_toArray, List.set_cons_succ, List.set_cons_zero] at ha
                      subst ha
                      refine MixH.takes [false, false, false, false, false, false, false, false, false, false, false, false, false, false, false, false, false, false, false, false, false, false, false, false, false, false, false, false, false, false, false, false, false, false, false, false, false, false, false, false, false, false, false, false, false, true, true, true, true] 0 (by kernel_rfl) (by kernel_rfl) (by decide) (by kernel_rfl) hS (fun K hK => ?_)
                      simp only [Mix.pick]
                      repeat (go_big_quiet_step (fail))
                      refine wpQuiet_nil (hK _ ?_)
                      clear hK K
                      refine MixH.done (by kernel_rfl) ?_
                      clear hS
                      go_wp2_with fail
                      go_roundw
                      case rel => exact ⟨j + 1, by go_num, by omega, by rw [HKN.out]; exact HY.out.1, HY.out.2⟩
                      case measure => simp [intOf]; omega
                    · rw [if_neg hjc] at hEk hbd
                      have c2 : ((j : Int) == (cc : Int)) = false := beq_eq_false_iff_ne.2 (by omega)
                      have c2' : (j == cc) = false := beq_eq_false_iff_ne.2 (by omega)
                      have c2'' : decide (j = cc) = false := decide_eq_false hjc
                      clear hic hjc
                      simp only [Int.add_zero] at hEk hbd
                      have HEK : Hid (E[kk]? = some (pA, pB)) := hEk
                      clear hEk
                      have m1 : 0 ≤ (pA) * yq ∧ (pA) * yq ≤ 65535000000000000 := mul_v hbd.1 (by omega)
                      have m2 : 0 ≤ (pB) * xq ∧ (pB) * xq ≤ 65535000000000000 := mul_v hbd.2.1 (by omega)
                      have m3 : 0 ≤ (2 * xq) * yq ∧ (2 * xq) * yq ≤ 65535000000000000 := mul_v (by omega) (by omega)
                      have ws1 : IntKind.i64.wrap ((pA) * yq) = (pA) * yq := i64_e _ (by omega) (by omega)
                      have ws2 : IntKind.i64.wrap ((pB) * xq) = (pB) * xq := i64_e _ (by omega) (by omega)
                      have ws3 : IntKind.i64.wrap ((pA) * yq - (pB) * xq) = (pA) * yq - (pB) * xq := i64_e _ (by omega) (by omega)
                      have ws4 : IntKind.i64.wrap (2 * xq) = 2 * xq := i64_e _ (by omega) (by omega)
                      have ws5 : IntKind.i64.wrap (2 * xq * yq) = 2 * xq * yq := i64_e _ (by omega) (by omega)
                      have ws6 : IntKind.i64.wrap (xq + yq) = xq + yq := i64_e _ (by omega) (by omega)
                      have ws7 : IntKind.i64.wrap (65535 * (xq + yq)) = 65535 * (xq + yq) := i64_e _ (by omega) (by omega)
                      have ws8 : IntKind.i64.wrap (2 * xq * yq + 65535 * (xq + yq)) = 2 * xq * yq + 65535 * (xq + yq) := i64_e _ (by omega) (by omega)
                      have ws9 : decide (2 * xq * yq + 65535 * (xq + yq) < (pA) * yq - (pB) * xq) = false := decide_eq_false (by have h1 := hbd.2.2; rw [← Int.mul_assoc] at h1; omega)
                      have wa : IntKind.i64.wrap (pA + size) = pA + size := i64_e _ (by omega) (by omega)
                      have wb : IntKind.i64.wrap (pB + size) = pB + size := i64_e _ (by omega) (by omega)
                      clear m1 m2 m3 hbd hps hqx hqy
                      have HZ : Hid (GL 2 prL 106 wr base (.slice (some ⟨gp, 0, none⟩) N2 pc) (evS E ps (kk + 1)) ∧ Ch (fun q => (Value.slice (some ⟨gp, 0, none⟩) N2 pc).ownBlock = some q) w wr) := by
                        refine ⟨?_, HG.out.2⟩
                        rw [← evS_set HE.out.2 HKK.out.1 HEK.out]
                        have h1 := HG.out.1
                        skip
                        rw [set_self HAT.out]
                        exact h1
                      go_upto_region 14 with fail
                      refine MixH.start (fun A => A.cell? ⟨gp, kk * 2, none⟩ = some (.int .i64 (pA)) ∧ A.cell? ⟨gp, kk * 2 + 1, none⟩ = some (.int .i64 (pB)) ∧ A.cell? ⟨g, off + i * 5, none⟩ = some (.int .i64 xq) ∧ A.cell? ⟨g, off + j * 5, none⟩ = some (.int .i64 yq)) (by kernel_rfl) ?_
                      obtain ⟨wA, hwA⟩ : ∃ W_, W_ = wr.drew := ⟨_, rfl⟩
                      have bdr : Below wr.heap.size wr wA := by rw [hwA]; exact (Below.refl _ _).drew
                      have HY : Hid (GL 2 prL 106 wA base (.slice (some ⟨gp, 0, none⟩) N2 pc) (evS E ps (kk + 1)) ∧ Ch (fun q => (Value.slice (some ⟨gp, 0, none⟩) N2 pc).ownBlock = some q) w wA) := ⟨HZ.out.1.below bdr, HZ.out.2.trans (Ch.ofBelow (S := fun q => (Value.slice (some ⟨gp, 0, none⟩) N2 pc).ownBlock = some q) bdr) (fun _ _ e => e)⟩
                      have hat2 : (evS E ps (kk + 1))[kk]? = some (pA, pB) := by rw [← evS_set HE.out.2 HKK.out.1 HEK.out]; exact List.getElem?_set_self (by rw [evS_len HE.out.2]; exact HKK.out.1)
                      have hS : wA.cell? ⟨gp, kk * 2, none⟩ = some (.int .i64 (pA)) ∧ wA.cell? ⟨gp, kk * 2 + 1, none⟩ = some (.int .i64 (pB)) ∧ wA.cell? ⟨g, off + i * 5, none⟩ = some (.int .i64 xq) ∧ wA.cell? ⟨g, off + j * 5, none⟩ = some (.int .i64 yq) := by
                        have q1 := HY.out.1.range prL_len kk _ hat2 0 _ rfl
                        have q2 := HY.out.1.range prL_len kk _ hat2 1 _ rfl
                        rw [Nat.add_zero] at q1
                        exact ⟨q1, q2, (HC.out _ HY.out.2).2.2.2.2.1, (HC.out _ HY.out.2).2.2.2.2.2⟩
                      clear hat2
                      rw [← hwA]
                      clear hwA bdr
                      refine MixH.takes [true, true, true, true, false, true, true, true, true, false, false, true, true, true, true, false, true, true, true, true, false, false, false, true, true, true, true, false, false, true, true, true, true, false, false, true, true, true, true, false, true, true, true, true] 17 (by kernel_rfl) (by kernel_rfl) (by decide) (by kernel_rfl) hS (fun K hK => ?_)
                      simp only [Mix.pick]
                      repeat (go_big_quiet_step (fail))
                      refine wpQuiet_nil (hK _ ?_)
                      clear hK K
                      refine MixH.take 16 4 _ (.int .i64 (pA)) rfl (by kernel_rfl) (by kernel_rfl) (by kernel_rfl) (by kernel_rfl) (yields_int (.tmp 95) rfl ⟨gp, kk * 2, none⟩ (.int .i64 (pA)) rfl rfl (fun A hA => hA.1)) hS (fun a' ha => ?_)
                      simp only [Act.put, List.setIfInBounds_toArray, List.set_cons_succ, List.set_cons_zero] at ha
                      subst ha
                      refine MixH.take 15 9 _ (.int .i64 yq) rfl (by kernel_rfl) (by kernel_rfl) (by kernel_rfl) (by kernel_rfl) (yields_int (.tmp 100) rfl ⟨g, off + j * 5, none⟩ (.int .i64 yq) rfl rfl (fun A hA => hA.2.2.2)) hS (fun a' ha => ?_)
                      simp only [Act.put, List.setIfInBounds_toArray, List.set_cons_succ, List.set_cons_zero] at ha
                      subst ha
                      refine MixH.takes [false, false, false, false, false, false, false, false, false, false, true] 14 (by kernel_rfl) (by kernel_rfl) (by decide) (by kernel_rfl) hS (fun K hK => ?_)
                      simp only [Mix.pick]
                      repeat (go_big_quiet_step (fail))
                      refine wpQuiet_nil (hK _ ?_)
                      clear hK K
                      refine MixH.take 13 15 _ (.int .i64 (pB)) rfl (by kernel_rfl) (by kernel_rfl) (by kernel_rfl) (by kernel_rfl) (yields_int (.tmp 106) rfl ⟨gp, kk * 2 + 1, none⟩ (.int .i64 (pB)) rfl rfl (fun A hA => hA.2.1)) hS (fun a' ha => ?_)
                      simp only [Act.put, List.setIfInBounds_toArray, List.set_cons_succ, List.set_cons_zero] at ha
                      subst ha
                      refine MixH.take 12 20 _ (.int .i64 xq) rfl (by kernel_rfl) (by kernel_rfl) (by kernel_rfl) (by kernel_rfl) (yields_int (.tmp 111) rfl ⟨g, off + i * 5, none⟩ (.int .i64 xq) rfl rfl (fun A hA => hA.2.2.1)) hS (fun a' ha => ?_)
                      simp only [Act.put, List.setIfInBounds_toArray, List.set_cons_succ, List.set_cons_zero] at ha
                      subst ha
                      refine MixH.takes [false, false, false, false, false, false, false, false, false, false, false, false, false, false, false, false, false, false, false, false, false, true, true] 10 (by kernel_rfl) (by kernel_rfl) (by decide) (by kernel_rfl) hS (fun K hK => ?_)
                      simp only [Mix.pick]
                      repeat (go_big_quiet_step (fail))
                      refine wpQuiet_nil (hK _ ?_)
                      clear hK K
                      refine MixH.take 9 27 _ (.int .i64 xq) rfl (by kernel_rfl) (by kernel_rfl) (by kernel_rfl) (by kernel_rfl) (yields_int (.tmp 118) rfl ⟨g, off + i * 5, none⟩ (.int .i64 xq) rfl rfl (fun A hA => hA.2.2.1)) hS (fun a' ha => ?_)
                      simp only [Act.put, List.setIfInBounds_toArray, List.set_cons_succ, List.set_cons_zero] at ha
                      subst ha
                      refine MixH.takes [false, false, false, false, false, false, false, false, false, false, false, false, false, false, false, false, false, false, false, false, false, false, false, false, false, false, false, false, true] 8 (by kernel_rfl) (by kernel_rfl) (by decide) (by kernel_rfl) hS (fun K hK => ?_)
                      simp only [Mix.pick]
                      repeat (go_big_quiet_step (fail))
                      refine wpQuiet_nil (hK _ ?_)
                      clear hK K
                      refine MixH.take 7 33 _ (.int .i64 yq) rfl (by kernel_rfl) (by kernel_rfl) (by kernel_rfl) (by kernel_rfl) (yields_int (.tmp 124) rfl ⟨g, off + j * 5, none⟩ (.int .i64 yq) rfl rfl (fun A hA => hA.2.2.2)) hS (fun a' ha => ?_)
                      simp only [Act.put, List.setIfInBounds_toArray, List.set_cons_succ, List.set_cons_zero] at ha
                      subst ha
                      refine MixH.takes [false, false, false, false, false, false, false, false, false, false, false, false, false, false, false, false, false, false, false, false, false, false, false, false, false, false, false, false, false, false, false, false, false, false, true] 6 (by kernel_rfl) (by kernel_rfl) (by decide) (by kernel_rfl) hS (fun K hK => ?_)
                      simp only [Mix.pick]
                      repeat (go_big_quiet_step (fail))
                      refine wpQuiet_nil (hK _ ?_)
                      clear hK K
                      refine MixH.take 5 39 _ (.int .i64 xq) rfl (by kernel_rfl) (by kernel_rfl) (by kernel_rfl) (by kernel_rfl) (yields_int (.tmp 130) rfl ⟨g, off + i * 5, none⟩ (.int .i64 xq) rfl rfl (fun A hA => hA.2.2.1)) hS (fun a' ha => ?_)
                      simp only [Act.put, List.setIfInBounds_toArray, List.set_cons_succ, List.set_cons_zero] at ha
                      subst ha
                      refine MixH.take 4 44 _ (.int .i64 yq) rfl (by kernel_rfl) (by kernel_rfl) (by kernel_rfl) (by kernel_rfl) (yields_int (.tmp 135) rfl ⟨g, off + j * 5, none⟩ (.int .i64 yq) rfl rfl (fun A hA => hA.2.2.2)) hS (fun a' ha => ?_)
                      simp only [Act.put, List.setIfInBounds_toArray, List.set_cons_succ, List.set_cons_zero] at ha
                      subst ha
                      refine MixH.takes [false, false, false, false, false, false, false, false, false, false, false, false, false, false, false, false, false, false, false, false, false, false, false, false, false, false, false, false, false, false, false, false, false, false, false, false, false, false, false, false, false, false, false, false, false, true, true, true, true] 0 (by kernel_rfl) (by kernel_rfl) (by decide) (by kernel_rfl) hS (fun K hK => ?_)
                      simp only [Mix.pick]
                      repeat (go_big_quiet_step (fail))
                      refine wpQuiet_nil (hK _ ?_)
                      clear hK K
                      refine MixH.done (by kernel_rfl) ?_
                      clear hS
                      go_wp2_with fail
                      go_roundw
                      case rel => exact ⟨j + 1, by go_num, by omega, by rw [HKN.out]; exact HY.out.1, HY.out.2⟩
                      case measure => simp [intOf]; omega

        · have HEQj : Hid (j = n) := by show _ = _; omega
          have pj1 : decide ((j : Int) < (n : Int)) = false := decide_eq_false (by omega)
          have pj2 : decide (j < n) = false := decide_eq_false hinj
          clear hinj
          have HNX : Hid ((i + 1) * n = ni + j) := by show _ = _; rw [Nat.succ_mul, HNI.out, HEQj.out]
          go_wp2
          go_roundw
          case rel => exact ⟨i + 1, by go_num, by omega, by rw [HNX.out]; exact HJ.out.1, HJ.out.2⟩
          case measure => simp [intOf]; omega
    · have HEQi : Hid (i = n) := by show _ = _; omega
      have pi1 : decide ((i : Int) < (n : Int)) = false := decide_eq_false (by omega)
      have pi2 : decide (i < n) = false := decide_eq_false hini
      clear hini
      have HFN : Hid (evS E ps (i * n) = evL was is_ n cc size ps) := by
        have h1 : i = n := HEQi.out
        show _ = _
        rw [h1, ← HS.out.2.2.1, ← HE.out.1]
        unfold evS
        rw [List.take_of_length_le (by rw [HE.out.2, HS.out.2.1]; omega), List.drop_eq_nil_of_le (by rw [HS.out.2.1]; omega), List.append_nil]
      go_wp2
      go_ret
      exact ⟨rfl, by rw [← HFN.out]; exact HI.out.1, HI.out.2⟩
end Go.Proofs.Ytclkcpdghpaboaa
