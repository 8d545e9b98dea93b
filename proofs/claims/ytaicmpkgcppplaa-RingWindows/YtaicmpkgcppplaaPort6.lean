/-
  The port: a buffer's bytes change; Take.
-/
import Derived.Test.YtaicmpkgcppplaaPort5
import Derived.Lib.SliceRun
namespace Go.Proofs.Ytaicmpkgcppplaa
open Go.RowKit

variable {w w' : World} {P gb gf gr gt : Nat} {s : PS}
/-- a buffer's bytes are others -/
theorem PortAt.setDa (h : PortAt w P gb gf gr gt s) (i b : Nat) (hi : i < s.pool) (hb : s.bb i = some b) (k : Ch (fun q => q = b) w w') (d : List Nat) (hl : d.length = s.size) (h256 : ∀ x ∈ d, x < 256)
    (hr : w'.ownsRow 0 5 1 (.slice (some ⟨b, 0, none⟩) s.size s.size) s.size ((toI d).map (Value.int .u8))) : PortAt w' P gb gf gr gt { s with da := updF s.da i d } := by
  obtain ⟨f1, S1, l1⟩ := h.lf
  obtain ⟨f2, S2, l2⟩ := h.lr
  obtain ⟨f3, S3, l3⟩ := h.lt
  obtain ⟨n1, n2, n3, n4, n5⟩ := h.nrow i b hi hb
  refine ⟨k.cell h.cB n1.symm, k.cell h.cS n1.symm, k.cell h.cF n1.symm, fun j => (k.frozen (p := ⟨P, j, none⟩) h.Pl n1.symm).trans (h.fz j), ⟨f1, S1, l1.ch k n1.symm n3.symm⟩, ⟨f2, S2, l2.ch k n1.symm n4.symm⟩, ⟨f3, S3, l3.ch k n1.symm n5.symm⟩,
    fun i hi => k.cell (h.b0 i hi) n2.symm, fun i hi => k.cell (h.b1 i hi) n2.symm, fun i hi => k.cell (h.b2 i hi) n2.symm, fun j => (k.frozen (p := ⟨gb, j, none⟩) h.bl n2.symm).trans (h.bz j), fun j c hj hc => ?_, fun j hj hn => ?_, fun j hj => ?_, fun j hj => ?_,
    h.sz1, h.sz2, h.p1, h.p2, h.nPb, h.nbf, h.nbr, h.nbt, h.nfr, h.nft, h.nrt, h.nrow, h.nrr⟩
  · by_cases e : j = i
    · subst e
      have : c = b := by simpa [hb] using hc.symm
      subst this
      simp only [updF_same]
      exact hr
    · simp only [updF_other _ _ _ e]
      exact k.owns (h.row j c hj hc) (fun q hq e' => h.nrr j i c hj hi e hc (by simp [Value.ownBlock] at hq; rw [hb, hq, e']))
  · by_cases e : j = i
    · subst e; simp only at hn; rw [hb] at hn; cases hn
    · simp only [updF_other _ _ _ e]; exact h.nil j hj hn
  · by_cases e : j = i
    · subst e; simp only [updF_same]; exact hl
    · simp only [updF_other _ _ _ e]; exact h.dl j hj
  · by_cases e : j = i
    · subst e; simp only [updF_same]; exact h256
    · simp only [updF_other _ _ _ e]; exact h.d256 j hj
theorem setCells_ch (g : Nat) : ∀ (vs : List Value) (o : Nat) (w : World), Ch (fun q => q = g) w (w.setCells g o vs)
  | [], _, w => Ch.refl _ w
  | v :: vs, o, w => ((Ch.refl (fun q => q = g) w).set ⟨g, o, none⟩ v rfl).trans (setCells_ch g vs (o + 1) _) (fun _ _ e => e)
theorem setCells_own {e : TypeId} {g n : Nat} (z : Value) : ∀ (m o : Nat) (w : World) (xs : List Value), w.ownsRow 0 e 1 (.slice (some ⟨g, 0, none⟩) n n) n xs → o + m ≤ n → (w.setCells g o (List.replicate m z)).ownsRow 0 e 1 (.slice (some ⟨g, 0, none⟩) n n) n (xs.take o ++ (List.replicate m z ++ xs.drop (o + m)))
  | 0, o, w, xs, h, _ => by simpa [World.setCells] using h
  | m + 1, o, w, xs, h, hm => by
    have hl := h.1
    have h1 := setCells_own z m (o + 1) _ _ (h.stored o z).1 (by omega)
    have e1 : (w.setCells g o (List.replicate (m + 1) z)) = (w.setCell ⟨g, o, none⟩ z).setCells g (o + 1) (List.replicate m z) := rfl
    rw [e1]
    have e2 : (xs.set o z).take (o + 1) ++ (List.replicate m z ++ (xs.set o z).drop (o + 1 + m)) = xs.take o ++ (List.replicate (m + 1) z ++ xs.drop (o + (m + 1))) := by
      rw [List.drop_set_of_lt (by omega), List.take_add_one, List.take_set_of_le (Nat.le_refl _), List.getElem?_set_self (by omega), show o + 1 + m = o + (m + 1) from by omega, List.replicate_succ]
      simp
    rw [← e2]
    exact h1
theorem Try.zeroByte (w : World) : (zeroValue 5).run Try.prog w = .ok (.int .u8 0) w := by kernel_rfl
set_option maxRecDepth 100000 in
set_option maxHeartbeats 800000 in
theorem Take_no (w : World) (P gb gf gr gt : Nat) (s : PS) (h : PortAt w P gb gf gr gt s) (hf : s.fr = []) :
    Calls Try.prog 21 #[.pointer (some ⟨P, 0, none⟩)] w fun e w' => e = .returned (.tuple #[.int .i64 0, .slice none 0 0, .int .i64 33]) ∧ w = w' := by
  obtain ⟨f, S, l⟩ := h.lf
  have hF := l.c2
  rw [hf] at hF
  simp only [List.length_nil] at hF
  clear h hf l
  go_enter Try.func21, Try.ntmps21
  go_wp2
  go_ret3
  exact ⟨rfl, rfl⟩
/-- the port behind a Take -/
def PS.taken (s : PS) (i b : Nat) (rest : List Nat) : PS := { s with fr := rest, pl := updF s.pl i 4, bb := updF s.bb i (some b), da := updF s.da i (List.replicate s.size 0) }
set_option maxRecDepth 100000 in
set_option maxHeartbeats 800000 in
theorem Take_yes (w : World) (P gb gf gr gt : Nat) (s : PS) (h : PortAt w P gb gf gr gt s) (i : Nat) (rest : List Nat) (hx : s.fr = i :: rest) (hi : i < s.pool) :
    Calls Try.prog 21 #[.pointer (some ⟨P, 0, none⟩)] w fun e w' => ∃ b, e = .returned (.tuple #[.int .i64 i, .slice (some ⟨b, 0, none⟩) s.size s.size, .int .i64 0]) ∧
      PortAt w' P gb gf gr gt (s.taken i b rest) ∧ Ch (fun q => q = P ∨ q = gb ∨ q = b) w w' ∧ (s.bb i = some b ∨ (s.bb i = none ∧ w.heap.size ≤ b)) := by
  obtain ⟨f, S, l⟩ := h.lf
  rw [hx] at l
  have hc := l.c2
  obtain ⟨rl, hrl⟩ : ∃ rl, rl = rest.length := ⟨_, rfl⟩
  simp only [List.length_cons, ← hrl] at hc
  have hb : (((rl + 1 : Nat) : Int) == 0) = false := beq_eq_false_iff_ne.2 (by omega)
  have HL : Hid _ := leave_line w P 2 gf s.pool i rest f S l
  have HP : Hid _ := h
  have hp2 := h.p2
  have hs1 := h.sz1
  have hs2 := h.sz2
  clear h l hx hrl
  go_enter Try.func21, Try.ntmps21
  go_wp2_with fail
  refine Calls.mono HL.out ?_
  rintro e w1 ⟨rfl, l1, k1, ho⟩
  have h1 := HP.out.freeSet (k1.mono (fun _ _ e => .inl e)) l1 ho
  have hB2 := h1.cB
  have c2 := h1.b0 i hi
  have z2 := h1.bz (i * 3)
  have h3 : PortAt (w1.setCell ⟨gb, i * 3, none⟩ (.int .i64 4)) P gb gf gr gt { s with fr := rest, pl := updF s.pl i 4 } := h1.setPl i 4 hi
  have hS3 := h3.cS
  simp only at hB2 c2 hS3
  have HW : Hid _ := window_any _ P gb gf gr gt _ h3 i hi s.size (Nat.le_refl _)
  have HC : Hid (Ch (fun q => q = P ∨ q = gb) w (w1.setCell ⟨gb, i * 3, none⟩ (.int .i64 4))) := (k1.mono (fun _ _ e => .inl e)).set _ _ (.inr rfl)
  clear h1 h3 k1 l1 ho HL HP
  go_wp2_with fail
  refine Calls.mono HW.out ?_
  rintro e w2 ⟨b, rfl, h4, k4, hor⟩
  have hrow : w2.ownsRow 0 5 1 (.slice (some ⟨b, 0, none⟩) s.size s.size) s.size ((toI (s.da i)).map (Value.int .u8)) := h4.row i b hi (updF_same _ _ _)
  have hcl : ∀ ty, (Builtin.clear_ #[30] ty #[.slice (some ⟨b, 0, none⟩) s.size s.size]).run Try.prog w2 = .ok (.tuple #[]) (w2.setCells b 0 (List.replicate s.size (.int .u8 0))) := fun ty =>
    Lib.run_clear_slice w2 _ _ ty (.int .u8 0) Try.underlying30 Try.zeroByte rfl rfl b 0 s.size s.size (by omega) (fun j hj => by
      have hl := hrow.1
      rw [Nat.zero_add, hrow.cellAt j (by simpa using hj), List.getElem?_eq_getElem (by omega)]; rfl) (fun j _ => by rw [Nat.zero_add]; exact hrow.frozenAt j)
  have hrow' := setCells_own (.int .u8 0) s.size 0 w2 _ hrow (by simp)
  have h5 := h4.setDa i b hi (updF_same _ _ _) (setCells_ch b (List.replicate s.size (.int .u8 0)) 0 w2) (List.replicate s.size 0) (by simp) (fun x hx => by rw [List.eq_of_mem_replicate hx]; omega) (by
    have hl := hrow.1
    simp only [List.take_zero, List.nil_append, Nat.zero_add] at hrow'
    rw [List.drop_eq_nil_of_le (by omega), List.append_nil] at hrow'
    rw [toList_made]
    exact hrow')
  have HF : Hid (PortAt _ P gb gf gr gt (s.taken i b rest)) := h5
  have HO : Hid _ := hor
  have HC5 : Hid (Ch (fun q => q = P ∨ q = gb ∨ q = b) w (w2.setCells b 0 (List.replicate s.size (.int .u8 0)))) :=
    ((HC.out.mono (fun _ _ e => e.elim .inl (fun e => .inr (.inl e)))).trans k4 (fun _ _ e => .inr (.inl e))).trans (setCells_ch b _ 0 w2) (fun _ _ e => .inr (.inr e))
  have hsz : w.heap.size ≤ (w1.setCell ⟨gb, i * 3, none⟩ (.int .i64 4)).heap.size := HC.out.size
  have HS : Hid _ := hsz
  clear h4 h5 hrow hrow' k4 HW hor hsz HC
  go_wp2
  go_ret3
  exact ⟨b, rfl, HF.out, HC5.out, HO.out.imp id (fun e => ⟨e.1, Nat.le_trans HS.out e.2⟩)⟩
end Go.Proofs.Ytaicmpkgcppplaa
