/-
  The port: Arrive takes a frame.
-/
import Derived.Test.YtaicmpkgcppplaaPort7
namespace Go.Proofs.Ytaicmpkgcppplaa
open Go.RowKit

theorem splice0 (cur cs : List Value) : splice cur 0 cs = cs ++ cur.drop cs.length := by simp [splice]
/-- the port behind an Arrive -/
def PS.arrived (s : PS) (i b : Nat) (fr : List Nat) : PS := { s with filled := s.filled + 1, pl := updF s.pl i 3, ln := updF s.ln i fr.length, bb := updF s.bb i (some b), da := updF s.da i (fr ++ (s.da i).drop fr.length) }
set_option maxRecDepth 100000 in
set_option maxHeartbeats 1600000 in
theorem Arrive_yes (w : World) (P gb gf gr gt : Nat) (s : PS) (h : PortAt w P gb gf gr gt s) (a : Option Addr) (c : Nat) (fr : List Nat) (hseg : Seg .u8 w a (toI fr)) (h256 : ∀ x ∈ fr, x < 256) (hap : ∀ x, fr ≠ [] → a = some x → x.block ≠ P ∧ x.block ≠ gb)
    (hn : fr.length ≤ s.size) (hk : s.filled < s.rx.length) (hi : s.rx[s.filled] < s.pool) :
    Calls Try.prog 12 #[.pointer (some ⟨P, 0, none⟩), .slice a fr.length c] w fun e w' => ∃ b, e = .returned (.int .i64 0) ∧
      PortAt w' P gb gf gr gt (s.arrived s.rx[s.filled] b fr) ∧ Ch (fun q => q = P ∨ q = gb ∨ q = b) w w' ∧ (s.bb s.rx[s.filled] = some b ∨ (s.bb s.rx[s.filled] = none ∧ w.heap.size ≤ b)) := by
  have hS := h.cS
  have hF := h.cF
  have hs2 := h.sz2
  have hp2 := h.p2
  obtain ⟨f, S, l⟩ := h.lr
  have hR := l.c2
  have hnb := l.nb
  have hql := l.ql
  obtain ⟨n, hnn⟩ : ∃ n, n = fr.length := ⟨_, rfl⟩
  obtain ⟨i, hii⟩ : ∃ i, i = s.rx[s.filled] := ⟨_, rfl⟩
  obtain ⟨x, hx⟩ : ∃ x, x = s.filled := ⟨_, rfl⟩
  obtain ⟨y, hy⟩ : ∃ y, y = s.rx.length := ⟨_, rfl⟩
  have HA : Hid (Calls Try.prog 33 #[.pointer (some ⟨P, 5, none⟩), .int .i64 x] w.drew.drew fun e w' => e = .returned (.int .i64 (i : Int)) ∧ Below w.drew.drew.heap.size w.drew.drew w') := by
    have := at_line w.drew.drew P 5 gr s.rxn s.rx f S ((l.ch (Ch.refl (fun _ => False) w).drew id id).ch (Ch.refl (fun _ => False) w.drew).drew id id) s.filled hk
    rw [← hii, ← hx] at this
    exact this
  rw [← hii] at hi ⊢
  rw [← hnn] at hn ⊢
  rw [← hx] at hF
  rw [← hy] at hR
  have hxy : x < y := by omega
  have hyb : y ≤ 100000 := by omega
  have hd1 : decide ((65535 : Int) < (n : Int)) = false := decide_eq_false (by omega)
  have hd2 : decide ((s.size : Int) < (n : Int)) = false := decide_eq_false (by omega)
  have hd3 : ((x : Int) == (y : Int)) = false := beq_eq_false_iff_ne.2 (by omega)
  have HP : Hid _ := h
  have HX : Hid (x = s.filled) := hx
  have HN : Hid (n = fr.length) := hnn
  have HSG : Hid _ := hseg
  clear h l hx hy hnn hii hk hseg
  go_enter Try.func12, Try.ntmps12
  go_wp2
  try go_region
  go_wp2
  go_region_with (go_at_call 33; refine Calls.mono HA.out ?_; rintro e w1 ⟨rfl, hb1⟩)
  have hB1 : Below w.heap.size w w1 := ((Below.refl _ _).drew.drew).trans hb1
  have h1 := HP.out.below hB1
  have F1 := h1.cF
  rw [← HX.out] at F1
  have f8 := h1.fz 8
  have wq : IntKind.i64.wrap ((x : Int) + 1) = (x : Int) + 1 := i64_small _ (by omega) (by omega)
  have h2 : PortAt (w1.setCell ⟨P, 8, none⟩ (.int .i64 ((x : Int) + 1))) P gb gf gr gt { s with filled := x + 1 } := h1.setFilled (x + 1)
  have HM : Hid _ := memory_any _ P gb gf gr gt _ h2 i hi
  have K2 : Hid (Ch (fun q => q = P) w (w1.setCell ⟨P, 8, none⟩ (.int .i64 ((x : Int) + 1)))) := (Ch.ofBelow (S := fun q => q = P) hB1).set _ _ rfl
  clear hB1 h1 h2 hb1 HA HP
  go_wp2_with fail
  refine Calls.mono HM.out ?_
  rintro e w2 ⟨b, rfl, h3, k3, hor⟩
  have hrow : w2.ownsRow 0 5 1 (.slice (some ⟨b, 0, none⟩) s.size s.size) s.size ((toI (s.da i)).map (Value.int .u8)) := h3.row i b hi (updF_same _ _ _)
  have hg2 := (form0 hrow).1
  have hdl : (s.da i).length = s.size := h3.dl i hi
  have hd256 : ∀ x ∈ s.da i, x < 256 := h3.d256 i hi
  have hs2' : Seg .u8 w2 a (toI fr) := k3.seg (K2.out.seg HSG.out (fun z hz e => (hap z (fun e' => hz (by rw [e']; rfl)) e).1)) (fun z hz e => (hap z (fun e' => hz (by rw [e']; rfl)) e).2)
  obtain ⟨cur, hcur⟩ : ∃ cur, cur = (toI (s.da i)).map (Value.int .u8) := ⟨_, rfl⟩
  obtain ⟨cs, hcs⟩ : ∃ cs, cs = (toI fr).map (Value.int .u8) := ⟨_, rfl⟩
  have HCL : Hid (cs.length = n) := by show _ = _; rw [hcs, HN.out]; simp [toI]
  have HUL : Hid (cur.length = s.size) := by show _ = _; rw [hcur, ← hdl]; simp [toI]
  have HC1 : Hid (∀ v ∈ cs, v.oneCell' = true) := by
    intro v hv; rw [hcs] at hv; obtain ⟨z, _, rfl⟩ := List.mem_map.1 hv; rfl
  have HSC : Hid (0 < cs.length → ∃ ad, a = some ad ∧ ∀ j v, cs[j]? = some v → w2.cell? (ad.add j) = some v) := by rw [hcs]; exact seg_cells hs2'
  rw [← hcur] at hg2
  have HE : Hid (splice cur 0 cs = (toI (fr ++ (s.da i).drop fr.length)).map (Value.int .u8)) := by
    show _ = _
    rw [splice0, hcur, hcs]
    simp [toI]
  have HDL : Hid ((fr ++ (s.da i).drop fr.length).length = s.size) := by
    show _ = _
    have := HN.out
    simp [hdl]; omega
  have HD2 : Hid (∀ x ∈ fr ++ (s.da i).drop fr.length, x < 256) := by
    intro x hx
    rcases List.mem_append.1 hx with hx | hx
    · exact h256 x hx
    · exact hd256 x (List.mem_of_mem_drop hx)
  have H3 : Hid _ := h3
  have K3 : Hid (Ch (fun q => q = P ∨ q = gb ∨ q = b) w w2) := (K2.out.mono (fun _ _ e => .inl e)).trans k3 (fun _ _ e => .inr (.inl e))
  have HO : Hid (s.bb i = some b ∨ (s.bb i = none ∧ w.heap.size ≤ b)) := hor.imp id (fun e => ⟨e.1, Nat.le_trans K2.out.size e.2⟩)
  clear hcur hcs hrow hdl hd256 hs2' h3 k3 hor HM K2 HSG hap h256
  go_wp2_with (first | (refine wpList_copy_ch rfl _ _ 30 30 rfl 5 Try.underlying30 Try.sizeByte _ _ _ _ _ _ rfl rfl b 0 cur 5 hg2 cs (by rw [HCL.out]; show n = min n s.size; omega) (fun h0 => ⟨rfl, HSC.out h0⟩) (by rw [HCL.out, HUL.out]; omega) HC1.out ?_))
  intro w3 HG3 k5
  have ho3 : w3.ownsRow 0 5 1 (.slice (some ⟨b, 0, none⟩) s.size s.size) s.size ((toI (fr ++ (s.da i).drop fr.length)).map (Value.int .u8)) := by
    have e := HG3.out
    rw [HE.out] at e
    exact to_own e (Nat.zero_le _) (by have := HDL.out; simp only [toI, List.length_map]; exact this) (by unfold maxLen; omega)
  have h5 := H3.out.setDa i b hi (updF_same _ _ _) k5 (fr ++ (s.da i).drop fr.length) HDL.out HD2.out ho3
  have hB5 := h5.cB
  have c0 := h5.b0 i hi
  have c1 := h5.b1 i hi
  have z0 := h5.bz (i * 3)
  have z1 := h5.bz (i * 3 + 1)
  simp only at hB5 c0 c1
  have HF : Hid (PortAt ((w3.setCell ⟨gb, i * 3, none⟩ (.int .i64 3)).setCell ⟨gb, i * 3 + 1, none⟩ (.int .i64 (n : Int))).drew P gb gf gr gt (s.arrived i b fr)) := by
    have := ((h5.setPl i 3 hi).setLn i n hi).drew
    have e1 := HN.out
    have e2 := HX.out
    subst e1
    subst e2
    exact this
  have HK : Hid (Ch (fun q => q = P ∨ q = gb ∨ q = b) w ((w3.setCell ⟨gb, i * 3, none⟩ (.int .i64 3)).setCell ⟨gb, i * 3 + 1, none⟩ (.int .i64 (n : Int))).drew) :=
    (((K3.out.trans k5 (fun _ _ e => .inr (.inr e))).set ⟨gb, i * 3, none⟩ (.int .i64 3) (.inr (.inl rfl))).set ⟨gb, i * 3 + 1, none⟩ (.int .i64 (n : Int)) (.inr (.inl rfl))).drew
  clear h5 k5 ho3 HG3 H3 K3 hg2
  go_wp2
  try go_region
  go_wp2
  go_ret
  exact ⟨b, rfl, HF.out, HK.out, HO.out⟩
end Go.Proofs.Ytaicmpkgcppplaa
