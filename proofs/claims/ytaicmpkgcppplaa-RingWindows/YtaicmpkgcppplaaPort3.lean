/-
  The port: a line of it changes; window, letGo, Buffer, Release.
-/
import Derived.Test.YtaicmpkgcppplaaPort2
namespace Go.Proofs.Ytaicmpkgcppplaa
open Go.RowKit

variable {w w' : World} {P gb gf gr gt : Nat} {s : PS}
/-- P's own cells and the lines' slots changed alone -/
theorem PortAt.lines (h : PortAt w P gb gf gr gt s) (k : Ch (fun q => q = P ∨ q = gf ∨ q = gr ∨ q = gt) w w') {fr' rx' tx' : List Nat} {fl' : Nat}
    (hB : w'.cell? ⟨P, 0, none⟩ = w.cell? ⟨P, 0, none⟩) (hS : w'.cell? ⟨P, 1, none⟩ = w.cell? ⟨P, 1, none⟩) (hF : w'.cell? ⟨P, 8, none⟩ = some (.int .i64 (fl' : Int)))
    (lf : ∃ f S, LineAt w' P 2 gf s.pool fr' f S) (lr : ∃ f S, LineAt w' P 5 gr s.rxn rx' f S) (lt : ∃ f S, LineAt w' P 9 gt s.txn tx' f S) :
    PortAt w' P gb gf gr gt { s with fr := fr', rx := rx', tx := tx', filled := fl' } := by
  have nb : ¬ (gb = P ∨ gb = gf ∨ gb = gr ∨ gb = gt) := by
    rintro (e | e | e | e)
    · exact h.nPb e.symm
    · exact h.nbf e
    · exact h.nbr e
    · exact h.nbt e
  have hz := lf.choose_spec.choose_spec.fz
  exact ⟨hB.trans h.cB, hS.trans h.cS, hF, hz, lf, lr, lt, fun i hi => k.cell (h.b0 i hi) nb, fun i hi => k.cell (h.b1 i hi) nb, fun i hi => k.cell (h.b2 i hi) nb, fun j => (k.frozen (p := ⟨gb, j, none⟩) h.bl nb).trans (h.bz j),
    fun i b hi hb => k.owns (h.row i b hi hb) (fun q hq e => by
      have hq' : b = q := by simpa [Value.ownBlock] using hq
      have hn := h.nrow i b hi hb
      subst hq'
      rcases e with e | e | e | e
      · exact hn.1 e
      · exact hn.2.2.1 e
      · exact hn.2.2.2.1 e
      · exact hn.2.2.2.2 e), h.nil, h.dl, h.d256, h.sz1, h.sz2, h.p1, h.p2, h.nPb, h.nbf, h.nbr, h.nbt, h.nfr, h.nft, h.nrt, h.nrow, h.nrr⟩
theorem PortAt.freeSet (h : PortAt w P gb gf gr gt s) (k : Ch (fun q => q = P ∨ q = gf) w w') {fr' : List Nat} {f : Nat} {S : List Nat} (l : LineAt w' P 2 gf s.pool fr' f S) (ho : ∀ j, j ≠ 2 + 1 → j ≠ 2 + 2 → w'.cell? ⟨P, j, none⟩ = w.cell? ⟨P, j, none⟩) :
    PortAt w' P gb gf gr gt { s with fr := fr' } := by
  obtain ⟨f2, S2, l2⟩ := h.lr
  obtain ⟨f3, S3, l3⟩ := h.lt
  exact h.lines (k.mono (fun _ _ e => e.elim .inl (fun e => .inr (.inl e)))) (ho 0 (by omega) (by omega)) (ho 1 (by omega) (by omega)) ((ho 8 (by omega) (by omega)).trans h.cF) ⟨f, S, l⟩
    ⟨f2, S2, l2.beside k (fun e => e.elim l2.ne (fun e => h.nfr e.symm)) (fun j _ _ => ho j (by omega) (by omega)) l.fz⟩ ⟨f3, S3, l3.beside k (fun e => e.elim l3.ne (fun e => h.nft e.symm)) (fun j _ _ => ho j (by omega) (by omega)) l.fz⟩
theorem PortAt.rxSet (h : PortAt w P gb gf gr gt s) (k : Ch (fun q => q = P ∨ q = gr) w w') {rx' : List Nat} {f : Nat} {S : List Nat} (l : LineAt w' P 5 gr s.rxn rx' f S) (ho : ∀ j, j ≠ 5 + 1 → j ≠ 5 + 2 → w'.cell? ⟨P, j, none⟩ = w.cell? ⟨P, j, none⟩) :
    PortAt w' P gb gf gr gt { s with rx := rx' } := by
  obtain ⟨f2, S2, l2⟩ := h.lf
  obtain ⟨f3, S3, l3⟩ := h.lt
  exact h.lines (k.mono (fun _ _ e => e.elim .inl (fun e => .inr (.inr (.inl e))))) (ho 0 (by omega) (by omega)) (ho 1 (by omega) (by omega)) ((ho 8 (by omega) (by omega)).trans h.cF)
    ⟨f2, S2, l2.beside k (fun e => e.elim l2.ne (fun e => h.nfr e)) (fun j _ _ => ho j (by omega) (by omega)) l.fz⟩ ⟨f, S, l⟩ ⟨f3, S3, l3.beside k (fun e => e.elim l3.ne (fun e => h.nrt e.symm)) (fun j _ _ => ho j (by omega) (by omega)) l.fz⟩
theorem PortAt.txSet (h : PortAt w P gb gf gr gt s) (k : Ch (fun q => q = P ∨ q = gt) w w') {tx' : List Nat} {f : Nat} {S : List Nat} (l : LineAt w' P 9 gt s.txn tx' f S) (ho : ∀ j, j ≠ 9 + 1 → j ≠ 9 + 2 → w'.cell? ⟨P, j, none⟩ = w.cell? ⟨P, j, none⟩) :
    PortAt w' P gb gf gr gt { s with tx := tx' } := by
  obtain ⟨f2, S2, l2⟩ := h.lf
  obtain ⟨f3, S3, l3⟩ := h.lr
  exact h.lines (k.mono (fun _ _ e => e.elim .inl (fun e => .inr (.inr (.inr e))))) (ho 0 (by omega) (by omega)) (ho 1 (by omega) (by omega)) ((ho 8 (by omega) (by omega)).trans h.cF)
    ⟨f2, S2, l2.beside k (fun e => e.elim l2.ne (fun e => h.nft e)) (fun j _ _ => ho j (by omega) (by omega)) l.fz⟩ ⟨f3, S3, l3.beside k (fun e => e.elim l3.ne (fun e => h.nrt e)) (fun j _ _ => ho j (by omega) (by omega)) l.fz⟩ ⟨f, S, l⟩
/-- how many are filled is another number -/
theorem PortAt.setFilled (h : PortAt w P gb gf gr gt s) (v : Nat) : PortAt (w.setCell ⟨P, 8, none⟩ (.int .i64 (v : Int))) P gb gf gr gt { s with filled := v } := by
  obtain ⟨f1, S1, l1⟩ := h.lf
  obtain ⟨f2, S2, l2⟩ := h.lr
  obtain ⟨f3, S3, l3⟩ := h.lt
  have k : Ch (fun q => q = P) w (w.setCell ⟨P, 8, none⟩ (.int .i64 (v : Int))) := (Ch.refl _ w).set _ _ rfl
  have ho : ∀ j, j ≠ 8 → (w.setCell ⟨P, 8, none⟩ (.int .i64 (v : Int))).cell? ⟨P, j, none⟩ = w.cell? ⟨P, j, none⟩ := fun j hj => gb_other _ _ _ _ _ hj
  have fz : ∀ j, (w.setCell ⟨P, 8, none⟩ (.int .i64 (v : Int))).frozen? ⟨P, j, none⟩ = false := fun j => by rw [World.frozen?_setCell]; exact h.fz j
  exact h.lines (k.mono (fun _ _ e => .inl e)) (ho 0 (by omega)) (ho 1 (by omega)) (World.cell?_setCell_same _ _ _ h.cF)
    ⟨f1, S1, l1.beside k l1.ne (fun j _ _ => ho j (by omega)) fz⟩ ⟨f2, S2, l2.beside k l2.ne (fun j _ _ => ho j (by omega)) fz⟩ ⟨f3, S3, l3.beside k l3.ne (fun j _ _ => ho j (by omega)) fz⟩

set_option maxRecDepth 100000 in
set_option maxHeartbeats 800000 in
theorem window_any (w : World) (P gb gf gr gt : Nat) (s : PS) (h : PortAt w P gb gf gr gt s) (i : Nat) (hi : i < s.pool) (n : Nat) (hn : n ≤ s.size) :
    Calls Try.prog 35 #[.pointer (some ⟨P, 0, none⟩), .int .i64 i, .int .i64 n] w fun e w' => ∃ b, e = .returned (.slice (some ⟨b, 0, none⟩) n n) ∧ Mem1 w P gb gf gr gt s i b w' := by
  have HM : Hid _ := memory_any w P gb gf gr gt s h i hi
  have hs2 := h.sz2
  clear h
  go_enter Try.func35, Try.ntmps35
  go_wp2_with fail
  refine Calls.mono HM.out ?_
  rintro e w' ⟨b, rfl, hm⟩
  have HF : Hid _ := hm
  clear hm HM
  go_wp2
  go_ret
  exact ⟨b, rfl, HF.out⟩
set_option maxRecDepth 100000 in
set_option maxHeartbeats 800000 in
theorem letGo_any (w : World) (P gb gf gr gt : Nat) (s : PS) (h : PortAt w P gb gf gr gt s) (i : Nat) (hi : i < s.pool) (hf : s.fr.length < s.pool) :
    Calls Try.prog 38 #[.pointer (some ⟨P, 0, none⟩), .int .i64 i] w fun e w' => e = .returned (.tuple #[]) ∧ PortAt w' P gb gf gr gt { s with pl := updF s.pl i 1, fr := s.fr ++ [i] } ∧ Ch (fun q => q = P ∨ q = gb ∨ q = gf) w w' := by
  have h1 := h.setPl i 1 hi
  have hB := h.cB
  have hc := h.b0 i hi
  have hfz := h.bz (i * 3)
  have hp2 := h.p2
  obtain ⟨f, S, l⟩ := h1.lf
  have HJ : Hid _ := join_line (w.setCell ⟨gb, i * 3, none⟩ (.int .i64 (1 : Nat))) P 2 gf s.pool i s.fr f S l hf
  have HP : Hid _ := h1
  clear h h1 l hf
  go_enter Try.func38, Try.ntmps38
  go_wp2_with fail
  refine Calls.mono HJ.out ?_
  rintro e w' ⟨rfl, ⟨S', l'⟩, k, ho⟩
  have HF : Hid _ := HP.out.freeSet k l' ho
  have HC : Hid (Ch (fun q => q = P ∨ q = gb ∨ q = gf) w w') := ((Ch.refl (fun q => q = P ∨ q = gb ∨ q = gf) w).set ⟨gb, i * 3, none⟩ (.int .i64 (1 : Nat)) (.inr (.inl rfl))).trans k (fun _ _ e => e.elim .inl (fun e => .inr (.inr e)))
  clear HJ HP l' k ho
  go_wp2
  go_end0
  exact ⟨rfl, HF.out, HC.out⟩
end Go.Proofs.Ytaicmpkgcppplaa
