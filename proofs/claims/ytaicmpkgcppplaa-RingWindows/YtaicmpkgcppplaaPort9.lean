/-
  The port: Drain.
-/
import Derived.Test.YtaicmpkgcppplaaPort8
namespace Go.Proofs.Ytaicmpkgcppplaa
open Go.RowKit

set_option maxRecDepth 100000 in
set_option maxHeartbeats 800000 in
theorem Drain_no (w : World) (P gb gf gr gt : Nat) (s : PS) (h : PortAt w P gb gf gr gt s) (hf : s.tx = []) :
    Calls Try.prog 17 #[.pointer (some ⟨P, 0, none⟩)] w fun e w' => e = .returned (.tuple #[.slice none 0 0, .bool false]) ∧ w = w' := by
  obtain ⟨f, S, l⟩ := h.lt
  have hF := l.c2
  rw [hf] at hF
  simp only [List.length_nil] at hF
  clear h hf l
  go_enter Try.func17, Try.ntmps17
  go_wp2
  go_ret2
  exact ⟨rfl, rfl⟩
/-- the port behind a Drain -/
def PS.drained (s : PS) (i b : Nat) (rest : List Nat) : PS := { s with tx := rest, pl := updF s.pl i 1, bb := updF s.bb i (some b), fr := s.fr ++ [i] }
theorem PortAt.rowlt {w : World} {P gb gf gr gt : Nat} {s : PS} (h : PortAt w P gb gf gr gt s) {q : Nat} (hq : PB P gb gf gr gt s q) : q < w.heap.size := by
  obtain ⟨_, _, l1⟩ := h.lf
  obtain ⟨_, _, l2⟩ := h.lr
  obtain ⟨_, _, l3⟩ := h.lt
  rcases hq with rfl | rfl | rfl | rfl | rfl | ⟨i, hi, hb⟩
  · exact h.Pl
  · exact h.bl
  · exact (l1.row.lt _ rfl).2
  · exact (l2.row.lt _ rfl).2
  · exact (l3.row.lt _ rfl).2
  · exact ((h.row i q hi hb).lt q rfl).2
set_option maxRecDepth 100000 in
set_option maxHeartbeats 1600000 in
theorem Drain_yes (w : World) (P gb gf gr gt : Nat) (s : PS) (h : PortAt w P gb gf gr gt s) (i : Nat) (rest : List Nat) (hx : s.tx = i :: rest) (hi : i < s.pool) (hln : s.ln i ≤ s.size) (hf : s.fr.length < s.pool) :
    Calls Try.prog 17 #[.pointer (some ⟨P, 0, none⟩)] w fun e w' => ∃ g b, e = .returned (.tuple #[.slice (some ⟨g, 0, none⟩) (s.ln i) (s.ln i), .bool true]) ∧
      w'.ownsRow w.heap.size 5 1 (.slice (some ⟨g, 0, none⟩) (s.ln i) (s.ln i)) (s.ln i) ((toI ((s.da i).take (s.ln i))).map (Value.int .u8)) ∧
      PortAt w' P gb gf gr gt (s.drained i b rest) ∧ Ch (fun q => q = P ∨ q = gb ∨ q = gf) w w' ∧ (s.bb i = some b ∨ (s.bb i = none ∧ w.heap.size ≤ b)) ∧ g ≠ b := by
  obtain ⟨i0, hii, hz0, hz1, hz2⟩ := info_parts Try.infoByte
  obtain ⟨f, S, l⟩ := h.lt
  rw [hx] at l
  have hc := l.c2
  obtain ⟨rl, hrl⟩ : ∃ rl, rl = rest.length := ⟨_, rfl⟩
  simp only [List.length_cons, ← hrl] at hc
  have hb : (((rl + 1 : Nat) : Int) == 0) = false := beq_eq_false_iff_ne.2 (by omega)
  have HL : Hid _ := leave_line w P 9 gt s.txn i rest f S l
  have HP : Hid _ := h
  have hp2 := h.p2
  have hs1 := h.sz1
  have hs2 := h.sz2
  obtain ⟨n, hnn⟩ : ∃ n, n = s.ln i := ⟨_, rfl⟩
  rw [← hnn] at hln ⊢
  have HN : Hid (n = s.ln i) := hnn
  have HFR : Hid _ := hf
  clear h l hx hrl hnn hf
  go_enter Try.func17, Try.ntmps17
  go_wp2_with fail
  refine Calls.mono HL.out ?_
  rintro e w1 ⟨rfl, l1, k1, ho⟩
  have h1 := HP.out.txSet (k1.mono (fun _ _ e => .inl e)) l1 ho
  have hB1 := h1.cB
  have c1 := h1.b1 i hi
  simp only [← HN.out] at hB1 c1
  have H1 : Hid _ := h1
  have K1 : Hid _ := k1
  clear h1 k1 l1 ho HL HP
  go_wp2_with (first | (at_make; refine wpList_make_full _ rfl _ _ 30 rfl w1.heap.size 5 i0 (.int .u8 0) 1 Try.underlying30 hii hz0 hz1 .i64 .i64 _ _ n rfl rfl rfl rfl (by rw [hz2]; omega) (by unfold maxLen; omega) (Nat.le_refl _) ?_))
  intro w2 hown hgr
  rw [toList_madeCells_one] at hown
  have h2 := H1.out.ch (Ch.ofGrown hgr) (fun q _ e => by cases e)
  have HM : Hid _ := memory_any _ P gb gf gr gt _ h2 i hi
  have K2 : Hid (Ch (fun q => q = P) w w2) := K1.out.trans (Ch.ofGrown hgr) (fun _ _ e => by cases e)
  obtain ⟨g, hg⟩ : ∃ g, g = w1.heap.size := ⟨_, rfl⟩
  rw [← hg] at hown ⊢
  have HG0 : Hid (g = w1.heap.size) := hg
  have HOW : Hid _ := hown
  have HLT : Hid (g < w2.heap.size) := (hown.lt g rfl).2
  clear h2 hown hgr hg
  go_wp2_with fail
  refine Calls.mono HM.out ?_
  rintro e w3 ⟨b, rfl, h3, k3, hor⟩
  have hgne : ∀ q, PB P gb gf gr gt { s with tx := rest, bb := updF s.bb i (some b) } q → q ≠ g := by
    intro q hq
    have e0 := HG0.out
    rcases hq with e | e | e | e | e | ⟨j, hj, hbj⟩
    · have := H1.out.rowlt (q := q) (.inl e); omega
    · have := H1.out.rowlt (q := q) (.inr (.inl e)); omega
    · have := H1.out.rowlt (q := q) (.inr (.inr (.inl e))); omega
    · have := H1.out.rowlt (q := q) (.inr (.inr (.inr (.inl e)))); omega
    · have := H1.out.rowlt (q := q) (.inr (.inr (.inr (.inr (.inl e))))); omega
    · have hbj : updF s.bb i (some b) j = some q := hbj
      by_cases e : j = i
      · subst e
        rw [updF_same] at hbj
        simp only [Option.some.injEq] at hbj
        subst hbj
        rcases hor with hh | ⟨_, hh⟩
        · have := H1.out.rowlt (q := b) (.inr (.inr (.inr (.inr (.inr ⟨j, hj, hh⟩))))); omega
        · have := HLT.out; omega
      · rw [updF_other _ _ _ e] at hbj
        have := H1.out.rowlt (q := q) (.inr (.inr (.inr (.inr (.inr ⟨j, hj, hbj⟩))))); omega
  have gP := hgne P (.inl rfl)
  have gG := hgne gb (.inr (.inl rfl))
  have gF := hgne gf (.inr (.inr (.inl rfl)))
  have gB := hgne b (.inr (.inr (.inr (.inr (.inr ⟨i, hi, updF_same _ _ _⟩)))))
  have hrow : w3.ownsRow 0 5 1 (.slice (some ⟨b, 0, none⟩) s.size s.size) s.size ((toI (s.da i)).map (Value.int .u8)) := h3.row i b hi (updF_same _ _ _)
  have hg3 := (form0 (k3.owns HOW.out (fun q hq e => gG (by simp [Value.ownBlock] at hq; omega)))).1
  have hdl : (s.da i).length = s.size := h3.dl i hi
  obtain ⟨cur, hcur⟩ : ∃ cur, cur = List.replicate n (Value.int IntKind.u8 0) := ⟨_, rfl⟩
  obtain ⟨cs, hcs⟩ : ∃ cs, cs = (toI ((s.da i).take n)).map (Value.int .u8) := ⟨_, rfl⟩
  rw [← hcur] at hg3
  have HCS : Hid (cs = (toI ((s.da i).take n)).map (Value.int .u8)) := hcs
  have HCL : Hid (cs.length = n) := by show _ = _; rw [hcs]; simp [toI, hdl]; omega
  have HUL : Hid (cur.length = n) := by show _ = _; rw [hcur]; simp
  have HC1 : Hid (∀ v ∈ cs, v.oneCell' = true) := by
    intro v hv; rw [hcs] at hv; obtain ⟨z, _, rfl⟩ := List.mem_map.1 hv; rfl
  have HSC : Hid (∀ j v, cs[j]? = some v → w3.cell? ((⟨b, 0, none⟩ : Addr).add j) = some v) := by
    intro j v hj
    have hjl : j < n := by have := (List.getElem?_eq_some_iff.1 hj).1; have := HCL.out; omega
    rw [Addr.add_lit, Nat.zero_add, hrow.cellAt j (by omega), ← hj, hcs]
    simp [toI, hjl]
  have HE : Hid (splice cur 0 cs = cs) := by
    show _ = _
    rw [splice0, List.drop_eq_nil_of_le (by rw [HCL.out, HUL.out]; exact Nat.le_refl _), List.append_nil]
  have H3 : Hid _ := h3
  have HGN : Hid _ := hgne
  have K3 : Hid (Ch (fun q => q = P ∨ q = gb ∨ q = gf) w w3) := (K2.out.mono (fun _ _ e => .inl e)).trans k3 (fun _ _ e => .inr (.inl e))
  have HO : Hid (s.bb i = some b ∨ (s.bb i = none ∧ w.heap.size ≤ b)) := hor.imp id (fun e => ⟨e.1, Nat.le_trans K2.out.size e.2⟩)
  have HGW : Hid (w.heap.size ≤ g) := by have e := HG0.out; rw [e]; exact K1.out.size
  have HNE : Hid (g ≠ b ∧ g ≠ P ∧ g ≠ gb ∧ g ≠ gf) := ⟨gB.symm, gP.symm, gG.symm, gF.symm⟩
  clear hcur hcs hrow hdl h3 k3 hor HM K2 hgne gP gG gF gB HOW HLT H1 K1
  go_wp2_with (first | (refine wpList_copy_ch rfl _ _ 30 30 rfl 5 Try.underlying30 Try.sizeByte _ _ _ _ _ _ rfl rfl g 0 cur 5 hg3 cs (by rw [HCL.out]; show n = min s.size n; omega) (fun h0 => ⟨rfl, _, rfl, HSC.out⟩) (by rw [HCL.out, HUL.out]; omega) HC1.out ?_))
  intro w4 HG4 k4
  have ho4 : w4.ownsRow w.heap.size 5 1 (.slice (some ⟨g, 0, none⟩) n n) n cs := by
    have e := HG4.out
    rw [HE.out] at e
    exact to_own e HGW.out HCL.out (by unfold maxLen; omega)
  have h4 := H3.out.ch k4 HGN.out
  have HLG : Hid _ := letGo_any w4 P gb gf gr gt _ h4 i hi HFR.out
  have K4 : Hid (Ch (fun q => q = P ∨ q = gb ∨ q = gf) w w4) := K3.out.trans k4 (fun x hx e => absurd HGW.out (by omega))
  have HO4 : Hid _ := ho4
  clear ho4 h4 HG4 k4 hg3 H3 K3 HGN
  go_wp2_with fail
  refine Calls.mono HLG.out ?_
  rintro e w5 ⟨rfl, h5, k5⟩
  have HF : Hid (PortAt w5 P gb gf gr gt (s.drained i b rest)) := h5
  have HK : Hid (Ch (fun q => q = P ∨ q = gb ∨ q = gf) w w5) := K4.out.trans k5 (fun _ _ e => e)
  have HO5 : Hid _ := k5.owns HO4.out (fun q hq e => by
    have hq' : g = q := by simpa [Value.ownBlock] using hq
    obtain ⟨_, a1, a2, a3⟩ := HNE.out
    rcases e with e | e | e <;> omega)
  clear h5 k5 HLG HO4 K4
  go_wp2
  go_ret2
  exact ⟨g, b, rfl, (by have e := HCS.out; rw [← e]; exact HO5.out), HF.out, HK.out, HO.out, HNE.out.1⟩
end Go.Proofs.Ytaicmpkgcppplaa
