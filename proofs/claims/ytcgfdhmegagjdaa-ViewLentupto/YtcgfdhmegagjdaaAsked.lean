/-
  The statements' asked: Fields and Pack, the program's and the document's, and their answers kept.
-/
import Derived.Test.YtcgfdhmegagjdaaLs
import Derived.Test.YtcgfdhmegagjdaaPacks2
import Derived.Test.YtcgfdhmegagjdaaJoin
import Derived.Test.YtcgfdhmegagjdaaActedD
namespace Go.Proofs.Ytcgfdhmegagjdaa.Ls
open Go.RowKit

def tyL (f : Nat) : TypeId := if f < 2 then 22 else 23
def etL (f : Nat) : TypeId := if f < 2 then 5 else 3
theorem Try.infoIl : (Try.prog.info? 23).map (fun i => (i.zero, i.size, i.bytes)) = some (some (.slice none 0 0), 1, 24) := by kernel_rfl
theorem own_lit (W : World) (base : Nat) (h : base ≤ W.heap.size) : (W.alloc (.cells #[] 5)).ownsRow base 5 1 (.slice (some ⟨W.heap.size, 0, none⟩) 0 0) 0 [] :=
  World.ownsRow_made W #[] 0 h (Nat.zero_le _) rfl
theorem split_ch' {w w1 : World} {X : Obj} {v v' : Value} (h : ((w.alloc X).grownBy w1 none ∧ ∀ q, v'.ownBlock = some q → w.heap.size + 1 ≤ q) ∨ (w.alloc X).grownBy w1 v.ownBlock ∧ v'.ownBlock = v.ownBlock ∧ ¬ v.ownBlock = none) :
    Ch (fun x => v.ownBlock = some x) w w1 ∧ ∀ q, v'.ownBlock = some q → v.ownBlock = some q ∨ w.heap.size ≤ q := by
  have h0 : Ch (fun x => v.ownBlock = some x) w (w.alloc X) := (Ch.refl _ w).alloc X
  rcases h with ⟨h1, h2⟩ | ⟨h1, h2, _⟩
  · exact ⟨h0.trans (Ch.ofGrown h1) (fun x _ hx => by cases hx), fun q hq => .inr (by have := h2 q hq; omega)⟩
  · exact ⟨h0.trans (Ch.ofGrown h1) (fun x _ hx => hx), fun q hq => .inl (by rw [← h2]; exact hq)⟩
theorem kept {w w' : World} {B : Nat} {e : TypeId} {v : Value} {n : Nat} {xs : List Value} (h : w.ownsRow B e 1 v n xs) (hb : Below w.heap.size w w') : w'.ownsRow B e 1 v n xs := (Ch.ofBelow (S := none_) hb).owns h (fun _ _ => id)

/-- the struct behind asked -/
def Asked (w0 w : World) (X : Nat) (col : Nat → Nat) (N : Nat → Nat) (R : Nat → Nat → Value) (C : Nat → Nat → List Value) (w' : World) : Prop :=
  ∃ (col' N' : Nat → Nat) (lv' : Nat → Value) (R' : Nat → Nat → Value) (C' : Nat → Nat → List Value) (L F : List Nat), LS 4 tyL etL w0 w' X col' N' lv' R' C' ∧ (∀ f, f < 4 → N' f = N f + 1) ∧ (∀ f, f < 4 → ∀ i, i < N f → R' f i = R f i ∧ C' f i = C f i) ∧
    (C' 0 (N 0) = (toI L).map (Value.int .u8) ∧ C' 1 (N 1) = (toI L).map (Value.int .u8) ∧ L.length ≤ 256 ∧ ∀ x ∈ L, x < 256) ∧ (C' 2 (N 2) = (toI F).map (Value.int .i64) ∧ C' 3 (N 3) = (toI F).map (Value.int .i64) ∧ F.length ≤ 64) ∧
    (∀ q, q < w.heap.size → col' q = col q) ∧ Ch (fun q => 1 ≤ col q ∧ col q ≤ 5) w w'

set_option maxRecDepth 100000 in
set_option maxHeartbeats 3200000 in
theorem asked_any (w0 w : World) (X : Nat) (col N : Nat → Nat) (lv : Nat → Value) (R : Nat → Nat → Value) (C : Nat → Nat → List Value) (h : LS 4 tyL etL w0 w X col N lv R C) (hN : ∀ f, f < 4 → N f ≤ 100)
    (ba wa va : Option Addr) (bl bc wl wc vl vc : Nat) (bs : List Nat) (ws vs : List Int) (hbl : bs.length = bl) (hbs : Seg .u8 w ba (toI bs)) (h256 : ∀ x ∈ bs, x < 256) (hb1 : bl ≤ bc) (hb2 : bc ≤ 1048576) (hwl : ws.length = wl) (hws : Seg .i64 w wa ws) (hw2 : wl ≤ 1048576) (hvl : vs.length = vl) (hvs : Seg .i64 w va vs) :
    Calls Try.prog 30 #[.pointer (some ⟨X, 0, none⟩), .slice ba bl bc, .slice wa wl wc, .slice va vl vc] w fun e w' => e = .returned (.bool true) ∧ Asked w0 w X col N R C w' := by
  obtain ⟨i0, hi, hz0, hz1, hz2⟩ := info_parts Try.infoByte
  obtain ⟨j0, gi, gz0, gz1, gz2⟩ := info_parts Try.infoSl
  obtain ⟨k0, ki, kz0, kz1, kz2⟩ := info_parts Try.infoIl
  obtain ⟨L, er, hL256, hLb, HP1', HP2'⟩ := packs2 ws vs (by omega)
  have HP1 : Hid (∀ W : World, Below w.heap.size w W → Calls Try.prog 12 #[.slice wa wl wc, .slice va vl vc] W fun e w' => ∃ a c, e = .returned (.tuple #[.slice a L.length c, .int .i64 er]) ∧ w'.ownsRow W.heap.size 5 1 (.slice a L.length c) L.length ((toI L).map (Value.int .u8)) ∧ Below W.heap.size W w') := fun W hW => HP1' wa va wl wc vl vc W hwl hvl (hws.old hW) (hvs.old hW)
  have HP2 : Hid (∀ W : World, Below w.heap.size w W → Calls Try.prog 51 #[.slice wa wl wc, .slice va vl vc] W fun e w' => ∃ a c, e = .returned (.tuple #[.slice a L.length c, .int .i64 er]) ∧ w'.ownsRow W.heap.size 5 1 (.slice a L.length c) L.length ((toI L).map (Value.int .u8)) ∧ Below W.heap.size W w') := fun W hW => HP2' wa va wl wc vl vc W hwl hvl (hws.old hW) (hvs.old hW)
  have HF1 : Hid (∀ W : World, Below w.heap.size w W → Calls Try.prog 16 #[.slice ba bl bc, .int .i64 0, .slice wa wl wc] W fun e w' => ∃ v, e = .returned (.tuple #[v, .int .i64 (fP bl 0 ws), .int .i64 (fE bl 0 ws)]) ∧ w'.ownsRow W.heap.size 3 1 v (fV bs 0 ws).length ((toI (fV bs 0 ws)).map (Value.int .i64)) ∧ Below W.heap.size W w') :=
    fun W hW => fields_total ba wa bl bc wl wc 0 bs ws W hbl hwl (hbs.old hW) (hws.old hW) h256 hb1 (by omega) (by omega) (by omega)
  have HF2 : Hid (∀ W : World, Below w.heap.size w W → Calls Try.prog 50 #[.slice ba bl bc, .int .i64 0, .slice wa wl wc] W fun e w' => ∃ v, e = .returned (.tuple #[v, .int .i64 (fP bl 0 ws), .int .i64 (fE bl 0 ws)]) ∧ w'.ownsRow W.heap.size 3 1 v (fV bs 0 ws).length ((toI (fV bs 0 ws)).map (Value.int .i64)) ∧ Below W.heap.size W w') :=
    fun W hW => refFields_total ba wa bl bc wl wc 0 bs ws W hbl hwl (hbs.old hW) (hws.old hW) h256 (by omega) (by omega) (by omega)
  obtain ⟨fp, hfp⟩ : ∃ fp, fp = fP bl 0 ws := ⟨_, rfl⟩
  obtain ⟨fe, hfe⟩ : ∃ fe, fe = fE bl 0 ws := ⟨_, rfl⟩
  obtain ⟨F, hF⟩ : ∃ F, F = fV bs 0 ws := ⟨_, rfl⟩
  have hF64 : F.length ≤ 64 := by rw [hF]; exact fV_len _ _ _
  rw [← hfp, ← hfe, ← hF] at HF1 HF2
  clear hfp hfe hF HP1' HP2' hbl hbs hwl hws hvl hvs h256
  have hN0 := hN 0 (by decide)
  have hN1 := hN 1 (by decide)
  have hN2 := hN 2 (by decide)
  have hN3 := hN 3 (by decide)
  go_enter Try.func30, Try.ntmps30
  go_wp2_with fail
  refine Calls.mono (HF1.out w (Below.refl _ _)) ?_
  rintro e w1 ⟨fv, rfl, hf, hb_1⟩
  obtain ⟨fa, fc, rfl⟩ := owns_shape hf
  go_wp2_with fail
  refine Calls.mono (HF2.out w1 hb_1) ?_
  rintro e w2 ⟨gv, rfl, hg, hb_2⟩
  obtain ⟨ga, gc, rfl⟩ := owns_shape hg
  have bb2 : Below w.heap.size w w2 := hb_1.trans (hb_2.mono hb_1.size)
  go_wp2_with fail
  refine Calls.mono (HP1.out w2 bb2) ?_
  rintro e w3 ⟨pa, pc, rfl, hp, hb_3⟩
  have bb3 : Below w.heap.size w w3 := bb2.trans (hb_3.mono bb2.size)
  go_wp2_with fail
  refine Calls.mono (HP2.out w3 bb3) ?_
  rintro e w4 ⟨qa, qc, rfl, hq, hb_4⟩
  have bb4 : Below w.heap.size w w4 := bb3.trans (hb_4.mono bb3.size)
  have s1 := hb_1.size
  have s2 := hb_2.size
  have s3 := hb_3.size
  have s4 := hb_4.size
  have hf4 := kept (kept (kept hf hb_2) hb_3) hb_4
  have hg4 := kept (kept hg hb_3) hb_4
  have hp4 := kept hp hb_4
  have of : ∀ q, (Value.slice fa F.length fc).ownBlock = some q → w.heap.size ≤ q ∧ q < w1.heap.size := hf.lt
  have og : ∀ q, (Value.slice ga F.length gc).ownBlock = some q → w1.heap.size ≤ q ∧ q < w2.heap.size := hg.lt
  have op : ∀ q, (Value.slice pa L.length pc).ownBlock = some q → w2.heap.size ≤ q ∧ q < w3.heap.size := hp.lt
  have oq : ∀ q, (Value.slice qa L.length qc).ownBlock = some q → w3.heap.size ≤ q ∧ q < w4.heap.size := hq.lt
  have hLS4 := h.below bb4
  have hws0 := h.ch.size
  have htop := h.top
  obtain ⟨Ln, hLn⟩ : ∃ Ln, Ln = L.length := ⟨_, rfl⟩
  obtain ⟨Fn, hFn⟩ : ∃ Fn, Fn = F.length := ⟨_, rfl⟩
  rw [← hLn] at hp4 hq hL256 op oq ⊢
  rw [← hFn] at hf4 hg4 hF64 of og ⊢
  have HLN : Hid (L.length = Ln) := hLn.symm
  have HFN : Hid (F.length = Fn) := hFn.symm
  clear hLn hFn hf hg hp HF1 HF2 HP1 HP2 hb_1 hb_2 hb_3 hb_4 bb2 bb3
  obtain ⟨N4, hN4⟩ : ∃ N4, N4 = N := ⟨_, rfl⟩
  obtain ⟨lv4, hlv4⟩ : ∃ lv4, lv4 = lv := ⟨_, rfl⟩
  have hLS4' := hLS4
  rw [← hN4, ← hlv4] at hLS4'
  have hNo4 : ∀ g, g < 4 → N4 g = N g := fun g _ => by rw [hN4]
  clear hLS4 hlv4
  have hLS4 := hLS4'
  clear hLS4' hN4
  have hfcol4 : ∀ x, (Value.slice fa Fn fc).ownBlock = some x → col x = 0 := fun x hx => htop x (of x hx).1
  have hgcol4 : ∀ x, (Value.slice ga Fn gc).ownBlock = some x → col x = 0 := fun x hx => htop x (by have := og x hx; omega)
  have hpcol4 : ∀ x, (Value.slice pa Ln pc).ownBlock = some x → col x = 0 := fun x hx => htop x (by have := op x hx; omega)
  have hqcol4 : ∀ x, (Value.slice qa Ln qc).ownBlock = some x → col x = 0 := fun x hx => htop x (by have := oq x hx; omega)
  have hq4 := hq
  clear hq
  go_upto_region 5 with fail
  obtain ⟨a2, c2, e2⟩ := owns_shape (hLS4.lst 2 (by decide))
  obtain ⟨n2, hn2⟩ : ∃ n2, n2 = N4 2 := ⟨_, rfl⟩
  have x2 := hLS4.cell 2 (by decide)
  have hl2 := hLS4.lst 2 (by decide)
  rw [e2, ← hn2] at x2 hl2
  have HV2 : Hid (lv4 2 = .slice a2 n2 c2) := by show _ = _; rw [e2, hn2]
  have HN2 : Hid (N4 2 = n2) := hn2.symm
  have hn2b : n2 ≤ 100 := by rw [hn2, hNo4 2 (by decide)]; exact hN 2 (by decide)
  clear e2 hn2
  go_wp2_with (at_builtin; refine append_split rfl (.tmp 49) (.tmp 51) 72 rfl w0.heap.size 23 k0 (.slice none 0 0) 24 Try.underlying72 ki kz0 kz1 kz2 rfl (.slice a2 n2 c2) n2 _ rfl (hl2.alloc _) ⟨w4.heap.size, 0, none⟩ 1 1 [.slice fa Fn fc] rfl rfl (cell_ptr' _ _ _) (by intro u hu; simp at hu; subst hu; rfl) (by unfold maxLen; omega) (by omega) (by have := hLS4.ch.size; simp; omega) ?_)
  intro v' wm5 ho hs
  obtain ⟨hch, hqq⟩ := split_ch' hs
  obtain ⟨bb2, dd2, rfl⟩ := owns_shape ho
  have hP := hLS4.push' 2 (by decide) (.slice fa Fn fc) ((toI F).map (Value.int .i64)) (by rw [List.length_map, toI_len, HFN.out]; exact owns_mono hf4 (by omega)) hfcol4 (.slice bb2 (n2 + 1) dd2) (by rw [HN2.out]; exact ho) (by rw [HV2.out]; exact hqq) (by rw [HV2.out]; exact hch)
  have hnX : ¬ (Value.slice a2 n2 c2).ownBlock = some X := fun s => by have h1 := hLS4.cL 2 (by decide) X (by rw [HV2.out]; exact s); have := hLS4.cX; omega
  have xs : wm5.cell? ⟨X, 2, none⟩ = some (.slice a2 n2 c2) := by have := cells1 hLS4.cell hLS4.ltX hch hnX 2 (by decide); rw [this, HV2.out]
  have fs : wm5.frozen? ⟨X, 2, none⟩ = false := by rw [hch.frozen (p := ⟨X, 2, none⟩) hLS4.ltX hnX]; exact hLS4.fz 2
  obtain ⟨w5, hw⟩ : ∃ W, W = wm5.setCell ⟨X, 2, none⟩ (.slice bb2 (n2 + 1) dd2) := ⟨_, rfl⟩
  rw [← hw] at hP
  have HW5 : Hid (wm5.setCell ⟨X, 2, none⟩ (.slice bb2 (n2 + 1) dd2) = w5) := hw.symm
  obtain ⟨col5, N5, lv5, R5, C5, hLS5, hNf5, hNg5, hRC5, hCf5, hcol5, hC5⟩ := hP
  have hNo5 : ∀ g, g < 4 → g ≠ 2 → N5 g = N g := fun g hg hh => by rw [hNg5 g (by omega)]; exact hNo4 g hg
  have hg5 := hC5.owns hg4 (fun x hx s => by have := hgcol4 x hx; omega)
  have hgcol5 : ∀ x, (Value.slice ga Fn gc).ownBlock = some x → col5 x = 0 := fun x hx => by
    have hx1 := og x hx
    rw [hcol5 x (hg4.lt x hx).2 (fun e => by have := of x e; omega)]; exact hgcol4 x hx
  have hp5 := hC5.owns hp4 (fun x hx s => by have := hpcol4 x hx; omega)
  have hpcol5 : ∀ x, (Value.slice pa Ln pc).ownBlock = some x → col5 x = 0 := fun x hx => by
    have hx1 := op x hx
    rw [hcol5 x (hp4.lt x hx).2 (fun e => by have := of x e; omega)]; exact hpcol4 x hx
  have hq5 := hC5.owns hq4 (fun x hx s => by have := hqcol4 x hx; omega)
  have hqcol5 : ∀ x, (Value.slice qa Ln qc).ownBlock = some x → col5 x = 0 := fun x hx => by
    have hx1 := oq x hx
    rw [hcol5 x (hq4.lt x hx).2 (fun e => by have := of x e; omega)]; exact hqcol4 x hx
  have sz5 := hC5.size
  clear hw ho hs hch hqq hnX x2 hl2 hf4 hg4 hp4 hq4
  go_upto_region 6 with fail
  rw [HW5.out]
  clear xs fs
  obtain ⟨a3, c3, e3⟩ := owns_shape (hLS5.lst 3 (by decide))
  obtain ⟨n3, hn3⟩ : ∃ n3, n3 = N5 3 := ⟨_, rfl⟩
  have x3 := hLS5.cell 3 (by decide)
  have hl3 := hLS5.lst 3 (by decide)
  rw [e3, ← hn3] at x3 hl3
  have HV3 : Hid (lv5 3 = .slice a3 n3 c3) := by show _ = _; rw [e3, hn3]
  have HN3 : Hid (N5 3 = n3) := hn3.symm
  have hn3b : n3 ≤ 100 := by rw [hn3, hNo5 3 (by decide) (by decide)]; exact hN 3 (by decide)
  clear e3 hn3
  go_wp2_with (at_builtin; refine append_split rfl (.tmp 59) (.tmp 61) 72 rfl w0.heap.size 23 k0 (.slice none 0 0) 24 Try.underlying72 ki kz0 kz1 kz2 rfl (.slice a3 n3 c3) n3 _ rfl (hl3.alloc _) ⟨w5.heap.size, 0, none⟩ 1 1 [.slice ga Fn gc] rfl rfl (cell_ptr' _ _ _) (by intro u hu; simp at hu; subst hu; rfl) (by unfold maxLen; omega) (by omega) (by have := hLS5.ch.size; simp; omega) ?_)
  intro v' wm6 ho hs
  obtain ⟨hch, hqq⟩ := split_ch' hs
  obtain ⟨bb3, dd3, rfl⟩ := owns_shape ho
  have hP := hLS5.push' 3 (by decide) (.slice ga Fn gc) ((toI F).map (Value.int .i64)) (by rw [List.length_map, toI_len, HFN.out]; exact owns_mono hg5 (by omega)) hgcol5 (.slice bb3 (n3 + 1) dd3) (by rw [HN3.out]; exact ho) (by rw [HV3.out]; exact hqq) (by rw [HV3.out]; exact hch)
  have hnX : ¬ (Value.slice a3 n3 c3).ownBlock = some X := fun s => by have h1 := hLS5.cL 3 (by decide) X (by rw [HV3.out]; exact s); have := hLS5.cX; omega
  have xs : wm6.cell? ⟨X, 3, none⟩ = some (.slice a3 n3 c3) := by have := cells1 hLS5.cell hLS5.ltX hch hnX 3 (by decide); rw [this, HV3.out]
  have fs : wm6.frozen? ⟨X, 3, none⟩ = false := by rw [hch.frozen (p := ⟨X, 3, none⟩) hLS5.ltX hnX]; exact hLS5.fz 3
  obtain ⟨w6, hw⟩ : ∃ W, W = wm6.setCell ⟨X, 3, none⟩ (.slice bb3 (n3 + 1) dd3) := ⟨_, rfl⟩
  rw [← hw] at hP
  have HW6 : Hid (wm6.setCell ⟨X, 3, none⟩ (.slice bb3 (n3 + 1) dd3) = w6) := hw.symm
  obtain ⟨col6, N6, lv6, R6, C6, hLS6, hNf6, hNg6, hRC6, hCf6, hcol6, hC6⟩ := hP
  have hNo6 : ∀ g, g < 4 → g ≠ 2 ∧ g ≠ 3 → N6 g = N g := fun g hg hh => by rw [hNg6 g (by omega)]; exact hNo5 g hg (by omega)
  have hp6 := hC6.owns hp5 (fun x hx s => by have := hpcol5 x hx; omega)
  have hpcol6 : ∀ x, (Value.slice pa Ln pc).ownBlock = some x → col6 x = 0 := fun x hx => by
    have hx1 := op x hx
    rw [hcol6 x (hp5.lt x hx).2 (fun e => by have := og x e; omega)]; exact hpcol5 x hx
  have hq6 := hC6.owns hq5 (fun x hx s => by have := hqcol5 x hx; omega)
  have hqcol6 : ∀ x, (Value.slice qa Ln qc).ownBlock = some x → col6 x = 0 := fun x hx => by
    have hx1 := oq x hx
    rw [hcol6 x (hq5.lt x hx).2 (fun e => by have := og x e; omega)]; exact hqcol5 x hx
  have sz6 := hC6.size
  clear hw ho hs hch hqq hnX x3 hl3 hg5 hp5 hq5
  go_upto_region 7 with fail
  rw [HW6.out]
  clear xs fs
  obtain ⟨a0, c0, e0⟩ := owns_shape (hLS6.lst 0 (by decide))
  obtain ⟨n0, hn0⟩ : ∃ n0, n0 = N6 0 := ⟨_, rfl⟩
  have x0 := hLS6.cell 0 (by decide)
  have hl0 := hLS6.lst 0 (by decide)
  rw [e0, ← hn0] at x0 hl0
  have HV0 : Hid (lv6 0 = .slice a0 n0 c0) := by show _ = _; rw [e0, hn0]
  have HN0 : Hid (N6 0 = n0) := hn0.symm
  have hn0b : n0 ≤ 100 := by rw [hn0, hNo6 0 (by decide) (by decide)]; exact hN 0 (by decide)
  clear e0 hn0
  go_wp2_with (at_builtin; refine append_split rfl (.tmp 69) (.tmp 71) 36 rfl w0.heap.size 22 j0 (.slice none 0 0) 24 Try.underlying36 gi gz0 gz1 gz2 rfl (.slice a0 n0 c0) n0 _ rfl (hl0.alloc _) ⟨w6.heap.size, 0, none⟩ 1 1 [.slice pa Ln pc] rfl rfl (cell_ptr' _ _ _) (by intro u hu; simp at hu; subst hu; rfl) (by unfold maxLen; omega) (by omega) (by have := hLS6.ch.size; simp; omega) ?_)
  intro v' wm7 ho hs
  obtain ⟨hch, hqq⟩ := split_ch' hs
  obtain ⟨bb0, dd0, rfl⟩ := owns_shape ho
  have hP := hLS6.push' 0 (by decide) (.slice pa Ln pc) ((toI L).map (Value.int .u8)) (by rw [List.length_map, toI_len, HLN.out]; exact owns_mono hp6 (by omega)) hpcol6 (.slice bb0 (n0 + 1) dd0) (by rw [HN0.out]; exact ho) (by rw [HV0.out]; exact hqq) (by rw [HV0.out]; exact hch)
  have hnX : ¬ (Value.slice a0 n0 c0).ownBlock = some X := fun s => by have h1 := hLS6.cL 0 (by decide) X (by rw [HV0.out]; exact s); have := hLS6.cX; omega
  have xs : wm7.cell? ⟨X, 0, none⟩ = some (.slice a0 n0 c0) := by have := cells1 hLS6.cell hLS6.ltX hch hnX 0 (by decide); rw [this, HV0.out]
  have fs : wm7.frozen? ⟨X, 0, none⟩ = false := by rw [hch.frozen (p := ⟨X, 0, none⟩) hLS6.ltX hnX]; exact hLS6.fz 0
  obtain ⟨w7, hw⟩ : ∃ W, W = wm7.setCell ⟨X, 0, none⟩ (.slice bb0 (n0 + 1) dd0) := ⟨_, rfl⟩
  rw [← hw] at hP
  have HW7 : Hid (wm7.setCell ⟨X, 0, none⟩ (.slice bb0 (n0 + 1) dd0) = w7) := hw.symm
  obtain ⟨col7, N7, lv7, R7, C7, hLS7, hNf7, hNg7, hRC7, hCf7, hcol7, hC7⟩ := hP
  have hNo7 : ∀ g, g < 4 → g ≠ 2 ∧ g ≠ 3 ∧ g ≠ 0 → N7 g = N g := fun g hg hh => by rw [hNg7 g (by omega)]; exact hNo6 g hg (by omega)
  have hq7 := hC7.owns hq6 (fun x hx s => by have := hqcol6 x hx; omega)
  have hqcol7 : ∀ x, (Value.slice qa Ln qc).ownBlock = some x → col7 x = 0 := fun x hx => by
    have hx1 := oq x hx
    rw [hcol7 x (hq6.lt x hx).2 (fun e => by have := op x e; omega)]; exact hqcol6 x hx
  have sz7 := hC7.size
  clear hw ho hs hch hqq hnX x0 hl0 hp6 hq6
  go_upto_region 8 with fail
  rw [HW7.out]
  clear xs fs
  obtain ⟨a1, c1, e1⟩ := owns_shape (hLS7.lst 1 (by decide))
  obtain ⟨n1, hn1⟩ : ∃ n1, n1 = N7 1 := ⟨_, rfl⟩
  have HV1 : Hid (lv7 1 = .slice a1 n1 c1) := by show _ = _; rw [e1, hn1]
  have HN1 : Hid (N7 1 = n1) := hn1.symm
  have hn1b : n1 ≤ 100 := by rw [hn1, hNo7 1 (by decide) (by decide)]; exact hN 1 (by decide)
  have HTL : Hid ((toI L).length = Ln) := by show _ = _; rw [toI_len, HLN.out]
  clear e1 hn1
  refine Mix.start (by kernel_rfl) ?_
  obtain ⟨wA, hwA⟩ : ∃ wA, wA = w7.drew := ⟨_, rfl⟩
  have hbA : Below w7.heap.size w7 wA := by rw [hwA]; exact (Below.refl _ _).drew
  have hLSA := hLS7.below hbA
  have hqs : Seg .u8 wA qa (toI L) := owns_seg_at (kept hq7 hbA)
  have HX1 : Hid (∀ W, Below wA.heap.size wA W → W.cell? ⟨X, 1, none⟩ = some (.slice a1 n1 c1)) := fun W hW => by rw [(hLSA.below hW).cell 1 (by decide), HV1.out]
  have x1a := HX1.out wA (Below.refl _ _)
  have hL1 : ∀ {W}, LS 4 tyL etL w0 W X col7 N7 lv7 R7 C7 → W.ownsRow w0.heap.size 22 1 (.slice a1 n1 c1) n1 ((List.range n1).map (R7 1)) := fun {W} hW => by have := hW.lst 1 (by decide); rw [HV1.out, HN1.out] at this; exact this
  have szA : wA.heap.size = w7.heap.size := by rw [hwA]; rfl
  rw [← hwA]
  have SZA : Hid (wA.heap.size = w7.heap.size) := szA
  clear hwA szA hq7
  refine Mix.take [true, true, true, true, false, false, true] 8 (by kernel_rfl) (by kernel_rfl) (by decide) (by kernel_rfl) (fun K hK => ?_)
  simp only [Mix.pick]
  repeat (go_big_quiet_step (fail))
  refine wpQuiet_nil (hK _ ?_)
  clear hK K
  refine Mix.pair [false, false, false, false, true] [false, false, false, false, false, true] 7 4 5 _ _ rfl rfl rfl rfl (by kernel_rfl) (by kernel_rfl) (fun K hK => ?_) (fun K hK => ?_)
  · simp only [Mix.pick]
    go_wp2
    refine ⟨rfl, hK _ _ ?_⟩
    clear hK K
    refine Mix.one [false, false, false, false, false, true] 6 5 _ rfl rfl (by kernel_rfl) (by kernel_rfl) (fun K hK => ?_)
    simp only [Mix.pick]
    go_wp2
    refine ⟨rfl, hK _ _ ?_⟩
    clear hK K
    have x1b := HX1.out _ ((Below.refl _ _).alloc (Nat.le_refl _) (.cells #[] 5))
    have hlit := own_lit wA wA.heap.size (Nat.le_refl _)
    refine Mix.one [false, false, false, false, false, false, false, true] 5 7 _ rfl rfl (by kernel_rfl) (by kernel_rfl) (fun K hK => ?_)
    simp only [Mix.pick]
    go_wp2_with (at_builtin; refine wpList_append_seg rfl (.tmp 80) (.tmp 81) 22 rfl wA.heap.size 5 i0 (.int .u8 0) 1 Try.underlying22 hi hz0 hz1 hz2 rfl (.slice (some ⟨wA.heap.size, 0, none⟩) 0 0) 0 [] rfl hlit .u8 qa Ln qc (toI L) rfl HTL.out (hqs.old ((Below.refl _ _).alloc (Nat.le_refl _) _)) (by unfold maxLen; omega) (by omega) (by simp) ?_)
    intro vc' wC hoc hgc
    have hbC : Below wA.heap.size wA wC := ((Below.refl _ _).alloc (Nat.le_refl _) _).grown hgc (by simp) (fun q hq => by simp [Value.ownBlock] at hq; omega)
    obtain ⟨ra, rc, rfl⟩ : ∃ ra rc, vc' = .slice ra Ln rc := by obtain ⟨ra, rc, e⟩ := owns_shape hoc; exact ⟨ra, rc, e⟩
    have hoc' : wC.ownsRow wA.heap.size 5 1 (.slice ra Ln rc) Ln ((toI L).map (Value.int .u8)) := by simpa using hoc
    have x1c := HX1.out _ hbC
    have x1d := HX1.out _ (hbC.alloc hbC.size (.cells #[.slice ra Ln rc] 22))
    have hLSC := hLSA.below hbC
    have szC := hbC.size
    clear hoc hgc
    go_wp2
    refine ⟨rfl, hK _ _ ?_⟩
    clear hK K
    refine Mix.one [false, false, false, false, false, false, false, false, true] 4 8 _ rfl rfl (by kernel_rfl) (by kernel_rfl) (fun K hK => ?_)
    simp only [Mix.pick]
    go_wp2
    refine ⟨rfl, hK _ _ ?_⟩
    clear hK K
    refine Mix.one [false, false, false, false, false, false, false, false, false, true] 3 9 _ rfl rfl (by kernel_rfl) (by kernel_rfl) (fun K hK => ?_)
    simp only [Mix.pick]
    go_wp2_with (at_builtin; refine append_split rfl (.tmp 79) (.tmp 83) 36 rfl w0.heap.size 22 j0 (.slice none 0 0) 24 Try.underlying36 gi gz0 gz1 gz2 rfl (.slice a1 n1 c1) n1 _ rfl ((hL1 hLSC).alloc _) ⟨wC.heap.size, 0, none⟩ 1 1 [.slice ra Ln rc] rfl rfl (cell_ptr' _ _ _) (by intro u hu; simp at hu; subst hu; rfl) (by unfold maxLen; omega) (by omega) (by have := hLSC.ch.size; simp; omega) ?_)
    intro v' wm ho hs
    obtain ⟨hch, hqq⟩ := split_ch' hs
    obtain ⟨bb1, dd1, rfl⟩ := owns_shape ho
    have hP := hLSC.push' 1 (by decide) (.slice ra Ln rc) ((toI L).map (Value.int .u8)) (by rw [List.length_map, toI_len, HLN.out]; exact owns_mono hoc' hLSA.ch.size) (fun q hq => hLSA.top q (hoc'.lt q hq).1) (.slice bb1 (n1 + 1) dd1) (by rw [HN1.out]; exact ho) (by rw [HV1.out]; exact hqq) (by rw [HV1.out]; exact hch)
    have hnX : ¬ (Value.slice a1 n1 c1).ownBlock = some X := fun s => by have h1 := hLSC.cL 1 (by decide) X (by rw [HV1.out]; exact s); have := hLSC.cX; omega
    have xs : wm.cell? ⟨X, 1, none⟩ = some (.slice a1 n1 c1) := by have := cells1 hLSC.cell hLSC.ltX hch hnX 1 (by decide); rw [this, HV1.out]
    have fs : wm.frozen? ⟨X, 1, none⟩ = false := by rw [hch.frozen (p := ⟨X, 1, none⟩) hLSC.ltX hnX]; exact hLSC.fz 1
    have HQ1 : Hid (∀ q, (Value.slice ra Ln rc).ownBlock = some q → wA.heap.size ≤ q) := fun q hq => (hoc'.lt q hq).1
    clear ho hs hch hqq hnX hoc'
    go_wp2
    refine ⟨rfl, hK _ _ ?_⟩
    clear hK K
    refine Mix.take [false, false, false, false, false, false, false, false, false, false, true, true] 1 (by kernel_rfl) (by kernel_rfl) (by decide) (by kernel_rfl) (fun K hK => ?_)
    simp only [Mix.pick]
    repeat (go_big_quiet_step (fail))
    refine wpQuiet_nil (hK _ ?_)
    clear hK K
    refine Mix.one [false, false, false, false, false, false, false, false, false, false, false, false, true] 0 12 _ rfl rfl (by kernel_rfl) (by kernel_rfl) (fun K hK => ?_)
    simp only [Mix.pick]
    go_wp2
    refine ⟨rfl, hK _ _ ?_⟩
    clear hK K
    refine Mix.done (by kernel_rfl) ?_
    obtain ⟨col8, N8, lv8, R8, C8, hLS8, hNf8, hNg8, hRC8, hCf8, hcol8, hC8⟩ := hP
    obtain ⟨w8, hw⟩ : ∃ W, W = wm.setCell ⟨X, 1, none⟩ (.slice bb1 (n1 + 1) dd1) := ⟨_, rfl⟩
    rw [← hw] at hLS8 hC8 ⊢
    clear hw xs fs
    go_wp2_with (first | (go_at_call 9; refine (num_any _ _).mono ?_; rintro e w' ⟨rfl, rfl⟩))
    go_ret
    refine ⟨by simp, col8, N8, lv8, R8, C8, L, F, hLS8, ?_, ?_, ⟨?_, ?_, by rw [HLN.out]; exact hL256, hLb⟩, ⟨?_, ?_, by rw [HFN.out]; exact hF64⟩, ?_, ?_⟩
    · intro f hf
      have e4 := hNo4 f hf
      by_cases f1 : f = 1
      · subst f1; rw [hNf8, hNg7 1 (by decide), hNg6 1 (by decide), hNg5 1 (by decide), e4]
      rw [hNg8 f f1]
      by_cases f0 : f = 0
      · subst f0; rw [hNf7, hNg6 0 (by decide), hNg5 0 (by decide), e4]
      rw [hNg7 f f0]
      by_cases f3 : f = 3
      · subst f3; rw [hNf6, hNg5 3 (by decide), e4]
      rw [hNg6 f f3]
      have f2 : f = 2 := by omega
      subst f2
      rw [hNf5, e4]
    · intro f hf i hi
      have le5 : N4 f ≤ N5 f := by
        by_cases e : f = 2
        · subst e; rw [hNf5]; omega
        · rw [hNg5 f e]; omega
      have le6 : N5 f ≤ N6 f := by
        by_cases e : f = 3
        · subst e; rw [hNf6]; omega
        · rw [hNg6 f e]; omega
      have le7 : N6 f ≤ N7 f := by
        by_cases e : f = 0
        · subst e; rw [hNf7]; omega
        · rw [hNg7 f e]; omega
      have i4 : i < N4 f := by rw [hNo4 f hf]; exact hi
      have q8 := hRC8 f i (by omega)
      have q7 := hRC7 f i (by omega)
      have q6 := hRC6 f i (by omega)
      have q5 := hRC5 f i (by omega)
      exact ⟨by rw [q8.1, q7.1, q6.1, q5.1], by rw [q8.2, q7.2, q6.2, q5.2]⟩
    · have e : N 0 = N6 0 := by rw [hNg6 0 (by decide), hNg5 0 (by decide), hNo4 0 (by decide)]
      rw [e, (hRC8 0 (N6 0) (by rw [hNf7]; omega)).2, hCf7]
    · have e : N 1 = N7 1 := by rw [hNg7 1 (by decide), hNg6 1 (by decide), hNg5 1 (by decide), hNo4 1 (by decide)]
      rw [e, hCf8]
    · have e : N 2 = N4 2 := by rw [hNo4 2 (by decide)]
      have l5 : N4 2 < N5 2 := by rw [hNf5]; omega
      have l6 : N6 2 = N5 2 := hNg6 2 (by decide)
      have l7 : N7 2 = N6 2 := hNg7 2 (by decide)
      rw [e, (hRC8 2 (N4 2) (by omega)).2, (hRC7 2 (N4 2) (by omega)).2, (hRC6 2 (N4 2) (by omega)).2, hCf5]
    · have e : N 3 = N5 3 := by rw [hNg5 3 (by decide), hNo4 3 (by decide)]
      have l6 : N5 3 < N6 3 := by rw [hNf6]; omega
      have l7 : N7 3 = N6 3 := hNg7 3 (by decide)
      rw [e, (hRC8 3 (N5 3) (by omega)).2, (hRC7 3 (N5 3) (by omega)).2, hCf6]
    · intro q hq'
      have hA := SZA.out
      rw [hcol8 q (by omega) (fun e => by have := HQ1.out q e; omega), hcol7 q (by omega) (fun e => by have := op q e; omega), hcol6 q (by omega) (fun e => by have := og q e; omega), hcol5 q (by omega) (fun e => by have := of q e; omega)]
    · have k5 : ∀ q, q < w.heap.size → col5 q = col q := fun q hq' => hcol5 q (by omega) (fun e => by have := of q e; omega)
      have k6 : ∀ q, q < w.heap.size → col6 q = col q := fun q hq' => (hcol6 q (by omega) (fun e => by have := og q e; omega)).trans (k5 q hq')
      have k7 : ∀ q, q < w.heap.size → col7 q = col q := fun q hq' => (hcol7 q (by omega) (fun e => by have := op q e; omega)).trans (k6 q hq')
      refine ((((((Ch.ofBelow bb4).trans hC5 (fun x hx s => ?_)).trans hC6 (fun x hx s => ?_)).trans hC7 (fun x hx s => ?_)).trans (Ch.ofBelow (S := none_) hbA) (fun _ _ s => s.elim)).trans (Ch.ofBelow (S := none_) hbC) (fun _ _ s => s.elim)).trans hC8 (fun x hx s => ?_)
      · omega
      · have := k5 x hx; omega
      · have := k6 x hx; omega
      · have := k7 x hx; omega
  · simp only [Mix.pick]
    go_wp2
    refine ⟨rfl, hK _ _ ?_⟩
    clear hK K
    have x1b := HX1.out _ ((Below.refl _ _).alloc (Nat.le_refl _) (.cells #[] 5))
    have hlit := own_lit wA wA.heap.size (Nat.le_refl _)
    refine Mix.pair [false, false, false, false, true] [false, false, false, false, false, false, false, true] 6 4 7 _ _ rfl rfl rfl rfl (by kernel_rfl) (by kernel_rfl) (fun K hK => ?_) (fun K hK => ?_)
    · simp only [Mix.pick]
      go_wp2
      refine ⟨rfl, hK _ _ ?_⟩
      clear hK K
      refine Mix.one [false, false, false, false, false, false, false, true] 5 7 _ rfl rfl (by kernel_rfl) (by kernel_rfl) (fun K hK => ?_)
      simp only [Mix.pick]
      go_wp2_with (at_builtin; refine wpList_append_seg rfl (.tmp 80) (.tmp 81) 22 rfl wA.heap.size 5 i0 (.int .u8 0) 1 Try.underlying22 hi hz0 hz1 hz2 rfl (.slice (some ⟨wA.heap.size, 0, none⟩) 0 0) 0 [] rfl hlit .u8 qa Ln qc (toI L) rfl HTL.out (hqs.old ((Below.refl _ _).alloc (Nat.le_refl _) _)) (by unfold maxLen; omega) (by omega) (by simp) ?_)
      intro vc' wC hoc hgc
      have hbC : Below wA.heap.size wA wC := ((Below.refl _ _).alloc (Nat.le_refl _) _).grown hgc (by simp) (fun q hq => by simp [Value.ownBlock] at hq; omega)
      obtain ⟨ra, rc, rfl⟩ : ∃ ra rc, vc' = .slice ra Ln rc := by obtain ⟨ra, rc, e⟩ := owns_shape hoc; exact ⟨ra, rc, e⟩
      have hoc' : wC.ownsRow wA.heap.size 5 1 (.slice ra Ln rc) Ln ((toI L).map (Value.int .u8)) := by simpa using hoc
      have x1c := HX1.out _ hbC
      have x1d := HX1.out _ (hbC.alloc hbC.size (.cells #[.slice ra Ln rc] 22))
      have hLSC := hLSA.below hbC
      have szC := hbC.size
      clear hoc hgc
      go_wp2
      refine ⟨rfl, hK _ _ ?_⟩
      clear hK K
      refine Mix.one [false, false, false, false, false, false, false, false, true] 4 8 _ rfl rfl (by kernel_rfl) (by kernel_rfl) (fun K hK => ?_)
      simp only [Mix.pick]
      go_wp2
      refine ⟨rfl, hK _ _ ?_⟩
      clear hK K
      refine Mix.one [false, false, false, false, false, false, false, false, false, true] 3 9 _ rfl rfl (by kernel_rfl) (by kernel_rfl) (fun K hK => ?_)
      simp only [Mix.pick]
      go_wp2_with (at_builtin; refine append_split rfl (.tmp 79) (.tmp 83) 36 rfl w0.heap.size 22 j0 (.slice none 0 0) 24 Try.underlying36 gi gz0 gz1 gz2 rfl (.slice a1 n1 c1) n1 _ rfl ((hL1 hLSC).alloc _) ⟨wC.heap.size, 0, none⟩ 1 1 [.slice ra Ln rc] rfl rfl (cell_ptr' _ _ _) (by intro u hu; simp at hu; subst hu; rfl) (by unfold maxLen; omega) (by omega) (by have := hLSC.ch.size; simp; omega) ?_)
      intro v' wm ho hs
      obtain ⟨hch, hqq⟩ := split_ch' hs
      obtain ⟨bb1, dd1, rfl⟩ := owns_shape ho
      have hP := hLSC.push' 1 (by decide) (.slice ra Ln rc) ((toI L).map (Value.int .u8)) (by rw [List.length_map, toI_len, HLN.out]; exact owns_mono hoc' hLSA.ch.size) (fun q hq => hLSA.top q (hoc'.lt q hq).1) (.slice bb1 (n1 + 1) dd1) (by rw [HN1.out]; exact ho) (by rw [HV1.out]; exact hqq) (by rw [HV1.out]; exact hch)
      have hnX : ¬ (Value.slice a1 n1 c1).ownBlock = some X := fun s => by have h1 := hLSC.cL 1 (by decide) X (by rw [HV1.out]; exact s); have := hLSC.cX; omega
      have xs : wm.cell? ⟨X, 1, none⟩ = some (.slice a1 n1 c1) := by have := cells1 hLSC.cell hLSC.ltX hch hnX 1 (by decide); rw [this, HV1.out]
      have fs : wm.frozen? ⟨X, 1, none⟩ = false := by rw [hch.frozen (p := ⟨X, 1, none⟩) hLSC.ltX hnX]; exact hLSC.fz 1
      have HQ1 : Hid (∀ q, (Value.slice ra Ln rc).ownBlock = some q → wA.heap.size ≤ q) := fun q hq => (hoc'.lt q hq).1
      clear ho hs hch hqq hnX hoc'
      go_wp2
      refine ⟨rfl, hK _ _ ?_⟩
      clear hK K
      refine Mix.take [false, false, false, false, false, false, false, false, false, false, true, true] 1 (by kernel_rfl) (by kernel_rfl) (by decide) (by kernel_rfl) (fun K hK => ?_)
      simp only [Mix.pick]
      repeat (go_big_quiet_step (fail))
      refine wpQuiet_nil (hK _ ?_)
      clear hK K
      refine Mix.one [false, false, false, false, false, false, false, false, false, false, false, false, true] 0 12 _ rfl rfl (by kernel_rfl) (by kernel_rfl) (fun K hK => ?_)
      simp only [Mix.pick]
      go_wp2
      refine ⟨rfl, hK _ _ ?_⟩
      clear hK K
      refine Mix.done (by kernel_rfl) ?_
      obtain ⟨col8, N8, lv8, R8, C8, hLS8, hNf8, hNg8, hRC8, hCf8, hcol8, hC8⟩ := hP
      obtain ⟨w8, hw⟩ : ∃ W, W = wm.setCell ⟨X, 1, none⟩ (.slice bb1 (n1 + 1) dd1) := ⟨_, rfl⟩
      rw [← hw] at hLS8 hC8 ⊢
      clear hw xs fs
      go_wp2_with (first | (go_at_call 9; refine (num_any _ _).mono ?_; rintro e w' ⟨rfl, rfl⟩))
      go_ret
      refine ⟨by simp, col8, N8, lv8, R8, C8, L, F, hLS8, ?_, ?_, ⟨?_, ?_, by rw [HLN.out]; exact hL256, hLb⟩, ⟨?_, ?_, by rw [HFN.out]; exact hF64⟩, ?_, ?_⟩
      · intro f hf
        have e4 := hNo4 f hf
        by_cases f1 : f = 1
        · subst f1; rw [hNf8, hNg7 1 (by decide), hNg6 1 (by decide), hNg5 1 (by decide), e4]
        rw [hNg8 f f1]
        by_cases f0 : f = 0
        · subst f0; rw [hNf7, hNg6 0 (by decide), hNg5 0 (by decide), e4]
        rw [hNg7 f f0]
        by_cases f3 : f = 3
        · subst f3; rw [hNf6, hNg5 3 (by decide), e4]
        rw [hNg6 f f3]
        have f2 : f = 2 := by omega
        subst f2
        rw [hNf5, e4]
      · intro f hf i hi
        have le5 : N4 f ≤ N5 f := by
          by_cases e : f = 2
          · subst e; rw [hNf5]; omega
          · rw [hNg5 f e]; omega
        have le6 : N5 f ≤ N6 f := by
          by_cases e : f = 3
          · subst e; rw [hNf6]; omega
          · rw [hNg6 f e]; omega
        have le7 : N6 f ≤ N7 f := by
          by_cases e : f = 0
          · subst e; rw [hNf7]; omega
          · rw [hNg7 f e]; omega
        have i4 : i < N4 f := by rw [hNo4 f hf]; exact hi
        have q8 := hRC8 f i (by omega)
        have q7 := hRC7 f i (by omega)
        have q6 := hRC6 f i (by omega)
        have q5 := hRC5 f i (by omega)
        exact ⟨by rw [q8.1, q7.1, q6.1, q5.1], by rw [q8.2, q7.2, q6.2, q5.2]⟩
      · have e : N 0 = N6 0 := by rw [hNg6 0 (by decide), hNg5 0 (by decide), hNo4 0 (by decide)]
        rw [e, (hRC8 0 (N6 0) (by rw [hNf7]; omega)).2, hCf7]
      · have e : N 1 = N7 1 := by rw [hNg7 1 (by decide), hNg6 1 (by decide), hNg5 1 (by decide), hNo4 1 (by decide)]
        rw [e, hCf8]
      · have e : N 2 = N4 2 := by rw [hNo4 2 (by decide)]
        have l5 : N4 2 < N5 2 := by rw [hNf5]; omega
        have l6 : N6 2 = N5 2 := hNg6 2 (by decide)
        have l7 : N7 2 = N6 2 := hNg7 2 (by decide)
        rw [e, (hRC8 2 (N4 2) (by omega)).2, (hRC7 2 (N4 2) (by omega)).2, (hRC6 2 (N4 2) (by omega)).2, hCf5]
      · have e : N 3 = N5 3 := by rw [hNg5 3 (by decide), hNo4 3 (by decide)]
        have l6 : N5 3 < N6 3 := by rw [hNf6]; omega
        have l7 : N7 3 = N6 3 := hNg7 3 (by decide)
        rw [e, (hRC8 3 (N5 3) (by omega)).2, (hRC7 3 (N5 3) (by omega)).2, hCf6]
      · intro q hq'
        have hA := SZA.out
        rw [hcol8 q (by omega) (fun e => by have := HQ1.out q e; omega), hcol7 q (by omega) (fun e => by have := op q e; omega), hcol6 q (by omega) (fun e => by have := og q e; omega), hcol5 q (by omega) (fun e => by have := of q e; omega)]
      · have k5 : ∀ q, q < w.heap.size → col5 q = col q := fun q hq' => hcol5 q (by omega) (fun e => by have := of q e; omega)
        have k6 : ∀ q, q < w.heap.size → col6 q = col q := fun q hq' => (hcol6 q (by omega) (fun e => by have := og q e; omega)).trans (k5 q hq')
        have k7 : ∀ q, q < w.heap.size → col7 q = col q := fun q hq' => (hcol7 q (by omega) (fun e => by have := op q e; omega)).trans (k6 q hq')
        refine ((((((Ch.ofBelow bb4).trans hC5 (fun x hx s => ?_)).trans hC6 (fun x hx s => ?_)).trans hC7 (fun x hx s => ?_)).trans (Ch.ofBelow (S := none_) hbA) (fun _ _ s => s.elim)).trans (Ch.ofBelow (S := none_) hbC) (fun _ _ s => s.elim)).trans hC8 (fun x hx s => ?_)
        · omega
        · have := k5 x hx; omega
        · have := k6 x hx; omega
        · have := k7 x hx; omega
    · simp only [Mix.pick]
      go_wp2_with (at_builtin; refine wpList_append_seg rfl (.tmp 80) (.tmp 81) 22 rfl wA.heap.size 5 i0 (.int .u8 0) 1 Try.underlying22 hi hz0 hz1 hz2 rfl (.slice (some ⟨wA.heap.size, 0, none⟩) 0 0) 0 [] rfl hlit .u8 qa Ln qc (toI L) rfl HTL.out (hqs.old ((Below.refl _ _).alloc (Nat.le_refl _) _)) (by unfold maxLen; omega) (by omega) (by simp) ?_)
      intro vc' wC hoc hgc
      have hbC : Below wA.heap.size wA wC := ((Below.refl _ _).alloc (Nat.le_refl _) _).grown hgc (by simp) (fun q hq => by simp [Value.ownBlock] at hq; omega)
      obtain ⟨ra, rc, rfl⟩ : ∃ ra rc, vc' = .slice ra Ln rc := by obtain ⟨ra, rc, e⟩ := owns_shape hoc; exact ⟨ra, rc, e⟩
      have hoc' : wC.ownsRow wA.heap.size 5 1 (.slice ra Ln rc) Ln ((toI L).map (Value.int .u8)) := by simpa using hoc
      have x1c := HX1.out _ hbC
      have x1d := HX1.out _ (hbC.alloc hbC.size (.cells #[.slice ra Ln rc] 22))
      have hLSC := hLSA.below hbC
      have szC := hbC.size
      clear hoc hgc
      go_wp2
      refine ⟨rfl, hK _ _ ?_⟩
      clear hK K
      refine Mix.pair [false, false, false, false, true] [false, false, false, false, false, false, false, false, true] 5 4 8 _ _ rfl rfl rfl rfl (by kernel_rfl) (by kernel_rfl) (fun K hK => ?_) (fun K hK => ?_)
      · simp only [Mix.pick]
        go_wp2
        refine ⟨rfl, hK _ _ ?_⟩
        clear hK K
        refine Mix.one [false, false, false, false, false, false, false, false, true] 4 8 _ rfl rfl (by kernel_rfl) (by kernel_rfl) (fun K hK => ?_)
        simp only [Mix.pick]
        go_wp2
        refine ⟨rfl, hK _ _ ?_⟩
        clear hK K
        refine Mix.one [false, false, false, false, false, false, false, false, false, true] 3 9 _ rfl rfl (by kernel_rfl) (by kernel_rfl) (fun K hK => ?_)
        simp only [Mix.pick]
        go_wp2_with (at_builtin; refine append_split rfl (.tmp 79) (.tmp 83) 36 rfl w0.heap.size 22 j0 (.slice none 0 0) 24 Try.underlying36 gi gz0 gz1 gz2 rfl (.slice a1 n1 c1) n1 _ rfl ((hL1 hLSC).alloc _) ⟨wC.heap.size, 0, none⟩ 1 1 [.slice ra Ln rc] rfl rfl (cell_ptr' _ _ _) (by intro u hu; simp at hu; subst hu; rfl) (by unfold maxLen; omega) (by omega) (by have := hLSC.ch.size; simp; omega) ?_)
        intro v' wm ho hs
        obtain ⟨hch, hqq⟩ := split_ch' hs
        obtain ⟨bb1, dd1, rfl⟩ := owns_shape ho
        have hP := hLSC.push' 1 (by decide) (.slice ra Ln rc) ((toI L).map (Value.int .u8)) (by rw [List.length_map, toI_len, HLN.out]; exact owns_mono hoc' hLSA.ch.size) (fun q hq => hLSA.top q (hoc'.lt q hq).1) (.slice bb1 (n1 + 1) dd1) (by rw [HN1.out]; exact ho) (by rw [HV1.out]; exact hqq) (by rw [HV1.out]; exact hch)
        have hnX : ¬ (Value.slice a1 n1 c1).ownBlock = some X := fun s => by have h1 := hLSC.cL 1 (by decide) X (by rw [HV1.out]; exact s); have := hLSC.cX; omega
        have xs : wm.cell? ⟨X, 1, none⟩ = some (.slice a1 n1 c1) := by have := cells1 hLSC.cell hLSC.ltX hch hnX 1 (by decide); rw [this, HV1.out]
        have fs : wm.frozen? ⟨X, 1, none⟩ = false := by rw [hch.frozen (p := ⟨X, 1, none⟩) hLSC.ltX hnX]; exact hLSC.fz 1
        have HQ1 : Hid (∀ q, (Value.slice ra Ln rc).ownBlock = some q → wA.heap.size ≤ q) := fun q hq => (hoc'.lt q hq).1
        clear ho hs hch hqq hnX hoc'
        go_wp2
        refine ⟨rfl, hK _ _ ?_⟩
        clear hK K
        refine Mix.take [false, false, false, false, false, false, false, false, false, false, true, true] 1 (by kernel_rfl) (by kernel_rfl) (by decide) (by kernel_rfl) (fun K hK => ?_)
        simp only [Mix.pick]
        repeat (go_big_quiet_step (fail))
        refine wpQuiet_nil (hK _ ?_)
        clear hK K
        refine Mix.one [false, false, false, false, false, false, false, false, false, false, false, false, true] 0 12 _ rfl rfl (by kernel_rfl) (by kernel_rfl) (fun K hK => ?_)
        simp only [Mix.pick]
        go_wp2
        refine ⟨rfl, hK _ _ ?_⟩
        clear hK K
        refine Mix.done (by kernel_rfl) ?_
        obtain ⟨col8, N8, lv8, R8, C8, hLS8, hNf8, hNg8, hRC8, hCf8, hcol8, hC8⟩ := hP
        obtain ⟨w8, hw⟩ : ∃ W, W = wm.setCell ⟨X, 1, none⟩ (.slice bb1 (n1 + 1) dd1) := ⟨_, rfl⟩
        rw [← hw] at hLS8 hC8 ⊢
        clear hw xs fs
        go_wp2_with (first | (go_at_call 9; refine (num_any _ _).mono ?_; rintro e w' ⟨rfl, rfl⟩))
        go_ret
        refine ⟨by simp, col8, N8, lv8, R8, C8, L, F, hLS8, ?_, ?_, ⟨?_, ?_, by rw [HLN.out]; exact hL256, hLb⟩, ⟨?_, ?_, by rw [HFN.out]; exact hF64⟩, ?_, ?_⟩
        · intro f hf
          have e4 := hNo4 f hf
          by_cases f1 : f = 1
          · subst f1; rw [hNf8, hNg7 1 (by decide), hNg6 1 (by decide), hNg5 1 (by decide), e4]
          rw [hNg8 f f1]
          by_cases f0 : f = 0
          · subst f0; rw [hNf7, hNg6 0 (by decide), hNg5 0 (by decide), e4]
          rw [hNg7 f f0]
          by_cases f3 : f = 3
          · subst f3; rw [hNf6, hNg5 3 (by decide), e4]
          rw [hNg6 f f3]
          have f2 : f = 2 := by omega
          subst f2
          rw [hNf5, e4]
        · intro f hf i hi
          have le5 : N4 f ≤ N5 f := by
            by_cases e : f = 2
            · subst e; rw [hNf5]; omega
            · rw [hNg5 f e]; omega
          have le6 : N5 f ≤ N6 f := by
            by_cases e : f = 3
            · subst e; rw [hNf6]; omega
            · rw [hNg6 f e]; omega
          have le7 : N6 f ≤ N7 f := by
            by_cases e : f = 0
            · subst e; rw [hNf7]; omega
            · rw [hNg7 f e]; omega
          have i4 : i < N4 f := by rw [hNo4 f hf]; exact hi
          have q8 := hRC8 f i (by omega)
          have q7 := hRC7 f i (by omega)
          have q6 := hRC6 f i (by omega)
          have q5 := hRC5 f i (by omega)
          exact ⟨by rw [q8.1, q7.1, q6.1, q5.1], by rw [q8.2, q7.2, q6.2, q5.2]⟩
        · have e : N 0 = N6 0 := by rw [hNg6 0 (by decide), hNg5 0 (by decide), hNo4 0 (by decide)]
          rw [e, (hRC8 0 (N6 0) (by rw [hNf7]; omega)).2, hCf7]
        · have e : N 1 = N7 1 := by rw [hNg7 1 (by decide), hNg6 1 (by decide), hNg5 1 (by decide), hNo4 1 (by decide)]
          rw [e, hCf8]
        · have e : N 2 = N4 2 := by rw [hNo4 2 (by decide)]
          have l5 : N4 2 < N5 2 := by rw [hNf5]; omega
          have l6 : N6 2 = N5 2 := hNg6 2 (by decide)
          have l7 : N7 2 = N6 2 := hNg7 2 (by decide)
          rw [e, (hRC8 2 (N4 2) (by omega)).2, (hRC7 2 (N4 2) (by omega)).2, (hRC6 2 (N4 2) (by omega)).2, hCf5]
        · have e : N 3 = N5 3 := by rw [hNg5 3 (by decide), hNo4 3 (by decide)]
          have l6 : N5 3 < N6 3 := by rw [hNf6]; omega
          have l7 : N7 3 = N6 3 := hNg7 3 (by decide)
          rw [e, (hRC8 3 (N5 3) (by omega)).2, (hRC7 3 (N5 3) (by omega)).2, hCf6]
        · intro q hq'
          have hA := SZA.out
          rw [hcol8 q (by omega) (fun e => by have := HQ1.out q e; omega), hcol7 q (by omega) (fun e => by have := op q e; omega), hcol6 q (by omega) (fun e => by have := og q e; omega), hcol5 q (by omega) (fun e => by have := of q e; omega)]
        · have k5 : ∀ q, q < w.heap.size → col5 q = col q := fun q hq' => hcol5 q (by omega) (fun e => by have := of q e; omega)
          have k6 : ∀ q, q < w.heap.size → col6 q = col q := fun q hq' => (hcol6 q (by omega) (fun e => by have := og q e; omega)).trans (k5 q hq')
          have k7 : ∀ q, q < w.heap.size → col7 q = col q := fun q hq' => (hcol7 q (by omega) (fun e => by have := op q e; omega)).trans (k6 q hq')
          refine ((((((Ch.ofBelow bb4).trans hC5 (fun x hx s => ?_)).trans hC6 (fun x hx s => ?_)).trans hC7 (fun x hx s => ?_)).trans (Ch.ofBelow (S := none_) hbA) (fun _ _ s => s.elim)).trans (Ch.ofBelow (S := none_) hbC) (fun _ _ s => s.elim)).trans hC8 (fun x hx s => ?_)
          · omega
          · have := k5 x hx; omega
          · have := k6 x hx; omega
          · have := k7 x hx; omega
      · simp only [Mix.pick]
        go_wp2
        refine ⟨rfl, hK _ _ ?_⟩
        clear hK K
        refine Mix.one [false, false, false, false, true] 4 4 _ rfl rfl (by kernel_rfl) (by kernel_rfl) (fun K hK => ?_)
        simp only [Mix.pick]
        go_wp2
        refine ⟨rfl, hK _ _ ?_⟩
        clear hK K
        refine Mix.one [false, false, false, false, false, false, false, false, false, true] 3 9 _ rfl rfl (by kernel_rfl) (by kernel_rfl) (fun K hK => ?_)
        simp only [Mix.pick]
        go_wp2_with (at_builtin; refine append_split rfl (.tmp 79) (.tmp 83) 36 rfl w0.heap.size 22 j0 (.slice none 0 0) 24 Try.underlying36 gi gz0 gz1 gz2 rfl (.slice a1 n1 c1) n1 _ rfl ((hL1 hLSC).alloc _) ⟨wC.heap.size, 0, none⟩ 1 1 [.slice ra Ln rc] rfl rfl (cell_ptr' _ _ _) (by intro u hu; simp at hu; subst hu; rfl) (by unfold maxLen; omega) (by omega) (by have := hLSC.ch.size; simp; omega) ?_)
        intro v' wm ho hs
        obtain ⟨hch, hqq⟩ := split_ch' hs
        obtain ⟨bb1, dd1, rfl⟩ := owns_shape ho
        have hP := hLSC.push' 1 (by decide) (.slice ra Ln rc) ((toI L).map (Value.int .u8)) (by rw [List.length_map, toI_len, HLN.out]; exact owns_mono hoc' hLSA.ch.size) (fun q hq => hLSA.top q (hoc'.lt q hq).1) (.slice bb1 (n1 + 1) dd1) (by rw [HN1.out]; exact ho) (by rw [HV1.out]; exact hqq) (by rw [HV1.out]; exact hch)
        have hnX : ¬ (Value.slice a1 n1 c1).ownBlock = some X := fun s => by have h1 := hLSC.cL 1 (by decide) X (by rw [HV1.out]; exact s); have := hLSC.cX; omega
        have xs : wm.cell? ⟨X, 1, none⟩ = some (.slice a1 n1 c1) := by have := cells1 hLSC.cell hLSC.ltX hch hnX 1 (by decide); rw [this, HV1.out]
        have fs : wm.frozen? ⟨X, 1, none⟩ = false := by rw [hch.frozen (p := ⟨X, 1, none⟩) hLSC.ltX hnX]; exact hLSC.fz 1
        have HQ1 : Hid (∀ q, (Value.slice ra Ln rc).ownBlock = some q → wA.heap.size ≤ q) := fun q hq => (hoc'.lt q hq).1
        clear ho hs hch hqq hnX hoc'
        go_wp2
        refine ⟨rfl, hK _ _ ?_⟩
        clear hK K
        refine Mix.take [false, false, false, false, false, false, false, false, false, false, true, true] 1 (by kernel_rfl) (by kernel_rfl) (by decide) (by kernel_rfl) (fun K hK => ?_)
        simp only [Mix.pick]
        repeat (go_big_quiet_step (fail))
        refine wpQuiet_nil (hK _ ?_)
        clear hK K
        refine Mix.one [false, false, false, false, false, false, false, false, false, false, false, false, true] 0 12 _ rfl rfl (by kernel_rfl) (by kernel_rfl) (fun K hK => ?_)
        simp only [Mix.pick]
        go_wp2
        refine ⟨rfl, hK _ _ ?_⟩
        clear hK K
        refine Mix.done (by kernel_rfl) ?_
        obtain ⟨col8, N8, lv8, R8, C8, hLS8, hNf8, hNg8, hRC8, hCf8, hcol8, hC8⟩ := hP
        obtain ⟨w8, hw⟩ : ∃ W, W = wm.setCell ⟨X, 1, none⟩ (.slice bb1 (n1 + 1) dd1) := ⟨_, rfl⟩
        rw [← hw] at hLS8 hC8 ⊢
        clear hw xs fs
        go_wp2_with (first | (go_at_call 9; refine (num_any _ _).mono ?_; rintro e w' ⟨rfl, rfl⟩))
        go_ret
        refine ⟨by simp, col8, N8, lv8, R8, C8, L, F, hLS8, ?_, ?_, ⟨?_, ?_, by rw [HLN.out]; exact hL256, hLb⟩, ⟨?_, ?_, by rw [HFN.out]; exact hF64⟩, ?_, ?_⟩
        · intro f hf
          have e4 := hNo4 f hf
          by_cases f1 : f = 1
          · subst f1; rw [hNf8, hNg7 1 (by decide), hNg6 1 (by decide), hNg5 1 (by decide), e4]
          rw [hNg8 f f1]
          by_cases f0 : f = 0
          · subst f0; rw [hNf7, hNg6 0 (by decide), hNg5 0 (by decide), e4]
          rw [hNg7 f f0]
          by_cases f3 : f = 3
          · subst f3; rw [hNf6, hNg5 3 (by decide), e4]
          rw [hNg6 f f3]
          have f2 : f = 2 := by omega
          subst f2
          rw [hNf5, e4]
        · intro f hf i hi
          have le5 : N4 f ≤ N5 f := by
            by_cases e : f = 2
            · subst e; rw [hNf5]; omega
            · rw [hNg5 f e]; omega
          have le6 : N5 f ≤ N6 f := by
            by_cases e : f = 3
            · subst e; rw [hNf6]; omega
            · rw [hNg6 f e]; omega
          have le7 : N6 f ≤ N7 f := by
            by_cases e : f = 0
            · subst e; rw [hNf7]; omega
            · rw [hNg7 f e]; omega
          have i4 : i < N4 f := by rw [hNo4 f hf]; exact hi
          have q8 := hRC8 f i (by omega)
          have q7 := hRC7 f i (by omega)
          have q6 := hRC6 f i (by omega)
          have q5 := hRC5 f i (by omega)
          exact ⟨by rw [q8.1, q7.1, q6.1, q5.1], by rw [q8.2, q7.2, q6.2, q5.2]⟩
        · have e : N 0 = N6 0 := by rw [hNg6 0 (by decide), hNg5 0 (by decide), hNo4 0 (by decide)]
          rw [e, (hRC8 0 (N6 0) (by rw [hNf7]; omega)).2, hCf7]
        · have e : N 1 = N7 1 := by rw [hNg7 1 (by decide), hNg6 1 (by decide), hNg5 1 (by decide), hNo4 1 (by decide)]
          rw [e, hCf8]
        · have e : N 2 = N4 2 := by rw [hNo4 2 (by decide)]
          have l5 : N4 2 < N5 2 := by rw [hNf5]; omega
          have l6 : N6 2 = N5 2 := hNg6 2 (by decide)
          have l7 : N7 2 = N6 2 := hNg7 2 (by decide)
          rw [e, (hRC8 2 (N4 2) (by omega)).2, (hRC7 2 (N4 2) (by omega)).2, (hRC6 2 (N4 2) (by omega)).2, hCf5]
        · have e : N 3 = N5 3 := by rw [hNg5 3 (by decide), hNo4 3 (by decide)]
          have l6 : N5 3 < N6 3 := by rw [hNf6]; omega
          have l7 : N7 3 = N6 3 := hNg7 3 (by decide)
          rw [e, (hRC8 3 (N5 3) (by omega)).2, (hRC7 3 (N5 3) (by omega)).2, hCf6]
        · intro q hq'
          have hA := SZA.out
          rw [hcol8 q (by omega) (fun e => by have := HQ1.out q e; omega), hcol7 q (by omega) (fun e => by have := op q e; omega), hcol6 q (by omega) (fun e => by have := og q e; omega), hcol5 q (by omega) (fun e => by have := of q e; omega)]
        · have k5 : ∀ q, q < w.heap.size → col5 q = col q := fun q hq' => hcol5 q (by omega) (fun e => by have := of q e; omega)
          have k6 : ∀ q, q < w.heap.size → col6 q = col q := fun q hq' => (hcol6 q (by omega) (fun e => by have := og q e; omega)).trans (k5 q hq')
          have k7 : ∀ q, q < w.heap.size → col7 q = col q := fun q hq' => (hcol7 q (by omega) (fun e => by have := op q e; omega)).trans (k6 q hq')
          refine ((((((Ch.ofBelow bb4).trans hC5 (fun x hx s => ?_)).trans hC6 (fun x hx s => ?_)).trans hC7 (fun x hx s => ?_)).trans (Ch.ofBelow (S := none_) hbA) (fun _ _ s => s.elim)).trans (Ch.ofBelow (S := none_) hbC) (fun _ _ s => s.elim)).trans hC8 (fun x hx s => ?_)
          · omega
          · have := k5 x hx; omega
          · have := k6 x hx; omega
          · have := k7 x hx; omega
end Go.Proofs.Ytcgfdhmegagjdaa.Ls
