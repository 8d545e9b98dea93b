/-
  The walk of ViewMany.
-/
import Derived.Test.YtcgfdhmegagjdaaMany
import Derived.Test.YtcgfdhmegagjdaaTotal
import Derived.Test.YtcgfdhmegagjdaaSide
import Derived.Deep.DeepCutAuto
namespace Go.Proofs.Ytcgfdhmegagjdaa.viewMany
open Go.RowKit

theorem skip_total (B : Nat) (a : Option Addr) (len n : Nat) (w : World) (h : Cur w B a len 0) (h3 : len ≤ 9223372036854775807) (hn : n ≤ 40) :
    Calls Try.prog 22 #[.pointer (some ⟨B, 0, none⟩), .int .i64 n] w fun e w' => e = .returned (.int .i64 (if n ≤ len then 0 else 10)) ∧ Cur w' B a len (if n ≤ len then n else 0) ∧ w.grownBy w' (some B) := by
  by_cases h1 : n ≤ len
  · rw [if_pos h1, if_pos h1]
    refine (curSkip_ok B a len 0 n w h (by omega) (by omega)).mono ?_
    rintro e w' ⟨rfl, hc, hg⟩
    exact ⟨rfl, by simpa using hc, hg⟩
  · rw [if_neg h1, if_neg h1]
    refine (curSkip_bad B a len 0 n w h (by omega) (by omega) (by omega) (by omega)).mono ?_
    rintro e w' ⟨rfl, hb'⟩
    exact ⟨by rw [if_neg (by omega)], h.below hb', grown_below hb' _⟩
theorem cell_ptr (w : World) (x : Value) (t : TypeId) : ∀ j u, [x][j]? = some u → (w.alloc (.cells #[x] t)).cell? ((⟨w.heap.size, 0, none⟩ : Addr).add j) = some u := by
  intro j u hj
  cases j with
  | zero =>
    simp at hj
    subst hj
    simp [go_sem, Addr.add]
  | succ j => simp at hj

theorem owns_kept1 {w w1 : World} {base : Nat} {e : TypeId} {v : Value} {m : Nat} {xs : List Value} (h : w.ownsRow base e 1 v m xs) (hb : Below w.heap.size w w1) : w1.ownsRow base e 1 v m xs :=
  (Ch.ofBelow (S := fun _ => False) hb).owns h (fun _ _ => id)
theorem split_ch {w w1 : World} {X : Obj} {v v' : Value} (h : ((w.alloc X).grownBy w1 none ∧ ∀ q, v'.ownBlock = some q → w.heap.size + 1 ≤ q) ∨ (w.alloc X).grownBy w1 v.ownBlock ∧ v'.ownBlock = v.ownBlock ∧ ¬ v.ownBlock = none) :
    Ch (fun x => v.ownBlock = some x) w w1 ∧ ∀ q, v'.ownBlock = some q → v.ownBlock = some q ∨ w.heap.size ≤ q := by
  have h0 : Ch (fun x => v.ownBlock = some x) w (w.alloc X) := (Ch.refl _ w).alloc X
  rcases h with ⟨h1, h2⟩ | ⟨h1, h2, _⟩
  · exact ⟨h0.trans (Ch.ofGrown h1) (fun x _ hx => by cases hx), fun q hq => .inr (by have := h2 q hq; omega)⟩
  · exact ⟨h0.trans (Ch.ofGrown h1) (fun x _ hx => hx), fun q hq => .inl (by rw [← h2]; exact hq)⟩
theorem apart' {w : World} {B B' : Nat} {e e' : TypeId} {v v' : Value} {n n' : Nat} {xs xs' : List Value} (h : w.ownsRow B e 1 v n xs) (h' : w.ownsRow B' e' 1 v' n' xs') (hne : e ≠ e') : ∀ g, v.ownBlock = some g → ¬ v'.ownBlock = some g := by
  intro g hg hg'
  rcases apart h h' hne with e | e
  · rw [hg] at e; cases e
  · exact e (by rw [hg, hg'])
set_option maxHeartbeats 400000 in
theorem left_any (B : Nat) (a : Option Addr) (len p : Nat) (w : World) (h : Cur w B a len p) (h3 : len ≤ 9223372036854775807) (hp : p ≤ len) :
    Calls Try.prog 25 #[.pointer (some ⟨B, 0, none⟩)] w fun e w' => e = .returned (.int .i64 ((len : Int) - p)) ∧ Below w.heap.size w w' := by
  have h0 := h.c0
  have h1 := h.c1
  go_enter Try.func25, Try.ntmps25
  go_wp2
  try go_region
  all_goals
    go_wp2
    go_ret
    exact ⟨rfl, (Below.refl _ _).drew⟩
set_option maxHeartbeats 400000 in
theorem place_any (B : Nat) (a : Option Addr) (len p : Nat) (w : World) (h : Cur w B a len p) :
    Calls Try.prog 24 #[.pointer (some ⟨B, 0, none⟩)] w fun e w' => e = .returned (.int .i64 p) ∧ w = w' := by
  have h1 := h.c1
  go_enter Try.func24, Try.ntmps24
  go_wp2
  go_ret
  exact ⟨rfl, rfl⟩
theorem same_eq (a b : Option Addr) (n ca cb : Nat) (l : List Nat) (w : World) (hn : l.length = n) (hl : Seg .u8 w a (toI l)) (hm : Seg .u8 w b (toI l)) (hl2 : ∀ x ∈ l, x < 256) :
    Calls Try.prog 19 #[.slice a n ca, .slice b n cb] w fun e w' => e = .returned (.bool true) ∧ w = w' := by
  subst hn
  have := same_any a b ca cb l l w hl hm hl2 hl2
  rwa [decide_eq_true rfl] at this
theorem row_form {w : World} {base : Nat} {e : TypeId} {v : Value} {n : Nat} {xs : List Value} (h : w.ownsRow base e 1 v n xs) (hn : 0 < n) : ∃ g c, v = .slice (some ⟨g, 0, none⟩) n c := by
  rcases h.2 with ⟨_, e2⟩ | ⟨g, cap, cur, e, _⟩
  · omega
  · exact ⟨g, cap, e⟩
theorem ptr_cell {w : World} {base : Nat} {e : TypeId} {g n c : Nat} {f : Nat → Nat} (h : w.ownsRow base e 1 (.slice (some ⟨g, 0, none⟩) n c) n (ptrs f n)) (j : Nat) (hj : j < n) : w.cell? ⟨g, j, none⟩ = some (.pointer (some ⟨f j, 0, none⟩)) := by
  have := h.cells rfl j _ (ptrs_get f n j hj)
  rwa [Addr.add_lit, Nat.zero_add] at this
theorem seg_lit1 (w : World) (t : TypeId) (x : Nat) : Seg .u8 (w.alloc (.cells #[.int .u8 (x : Int)] t)) (some ⟨w.heap.size, 0, none⟩) (toI [x]) := seg_new3 w .u8 t [(x : Int)]
theorem seg_lit2 (w : World) (t : TypeId) (x y : Nat) : Seg .u8 (w.alloc (.cells #[.int .u8 (x : Int), .int .u8 (y : Int)] t)) (some ⟨w.heap.size, 0, none⟩) (toI [x, y]) := seg_new3 w .u8 t [(x : Int), (y : Int)]
theorem seg_lit2' (w : World) (t : TypeId) (x y n : Nat) (hn : n = w.heap.size) : Seg .u8 (w.alloc (.cells #[.int .u8 (x : Int), .int .u8 (y : Int)] t)) (some ⟨n, 0, none⟩) (toI [x, y]) := by subst hn; exact seg_lit2 w t x y
theorem ex_add (k : Nat) : upd (fun j : Nat => [j]) k [k] = fun j => [j] := by
  funext j
  unfold upd
  split
  · rename_i e; rw [e]
  · rfl
theorem byN_one (k : Nat) (h : k < 256) : byN 1 k = [k] := by
  simp [byN, List.range_succ]; omega

set_option maxRecDepth 100000 in
set_option maxHeartbeats 3200000 in
theorem walk0 (w : World) (a0 : Option Addr) (len0 cap0 : Nat) (z0 : List Int) (_w0 : IsRow .u8 w a0 len0 cap0 z0) (n : Int) (_w1 : (Lit.int .i64 n).wf = true) :
    Calls Try.prog 5 #[.slice a0 len0 cap0, .int .i64 n] w fun e w' => e = .returned (.bool true) ∧ Below w.heap.size w w' := by
  obtain ⟨bs, hbl, hbs, hb1, hb2, hb256⟩ := _w0.bytes
  clear _w0 hbl hbs hb256
  obtain ⟨i0, hi, hz0, hz1, hz2⟩ := info_parts Try.infoCur
  obtain ⟨j0, gi, gz0, gz1, gz2⟩ := info_parts Try.infoBld
  obtain ⟨a, ha⟩ : ∃ a, a = cutA a0 0 len0 := ⟨_, rfl⟩
  have HA : Hid (a = cutA a0 0 len0) := ha
  clear ha
  go_enter Try.func5, Try.ntmps5
  go_wp2
  go_loopw [5, 6, 8] (fun cv ev ix wr => ∃ (k : Nat) (col cB dB : Nat → Nat) (dv : Nat → Value), k ≤ 40 ∧ ix = .int .i64 k ∧ FamO wr col a len0 cB dB dv (fun j => [j]) w.heap.size k ∧ wr.ownsRow w.heap.size 54 1 cv k (ptrs cB k) ∧ wr.ownsRow w.heap.size 24 1 ev k (ptrs dB k) ∧
      (∀ x, cv.ownBlock = some x → col x = 0) ∧ (∀ x, ev.ownBlock = some x → col x = 0) ∧ Below w.heap.size w wr) (fun _ _ ix _ => 40 - (intOf ix).toNat)
  case atStart => exact ⟨0, fun _ => 0, fun _ => 0, fun _ => 0, fun _ => .slice none 0 0, Nat.zero_le _, rfl, ⟨fun j hj => by omega, fun j hj => by omega, fun j hj => by omega, fun j hj => by omega⟩, World.ownsRow_nil _ _ _ _, World.ownsRow_nil _ _ _ _, by intro x hx; rfl, by intro x hx; rfl, Below.refl _ _⟩
  case round =>
    obtain ⟨k, col, cB, dB, dv, hk, rfl, hF, hoc, hod, hcc, hcd, hbel⟩ := hrel
    by_cases hlt : k < 40
    · have hws := hbel.size
      go_wp2_with fail
      refine (at_any a0 len0 cap0 wr hb1 hb2).mono ?_
      rintro e w1 ⟨rfl, hw1⟩
      rw [← HA.out] at hw1
      have cu1 := cur_new wr a len0 94
      rw [← hw1] at cu1
      have b1 : Below wr.heap.size wr w1 := by rw [hw1]; exact (Below.refl _ _).alloc (Nat.le_refl _) _
      obtain ⟨C, hC⟩ : ∃ C, C = wr.heap.size := ⟨_, rfl⟩
      rw [← hC] at cu1 ⊢
      have oC : wr.heap.size ≤ C := by omega
      have lC : C < w1.heap.size := cu1.lt
      clear hw1 hC
      go_wp2_with fail
      refine (newB_ok 3 w1 (by decide)).mono ?_
      rintro e w2 ⟨rfl, hB2, hw2⟩
      have b2 : Below w1.heap.size w1 w2 := by rw [hw2]; exact (Below.refl _ _).alloc (Nat.le_refl _) _
      have cu2 := cu1.below b2
      obtain ⟨D, hD⟩ : ∃ D, D = w1.heap.size := ⟨_, rfl⟩
      rw [← hD] at hB2 ⊢
      have oD : w1.heap.size ≤ D := by omega
      have b12 : Below wr.heap.size wr w2 := b1.trans (b2.mono b1.size)
      clear hw2 hD cu1 b1 b2
      go_wp2_with (first | (go_at_call 9; refine (num_any _ _).mono ?_; rintro e w' ⟨rfl, rfl⟩))
      refine (putB_ok D (.slice none 0 0) 3 [] 1 k w2 hB2 (by decide) (by decide) (by omega) (by decide) (by decide)).mono ?_
      rintro e w3 ⟨rfl, v3, hB3, hq3, hch3⟩
      rw [byN_one k (by omega), List.nil_append] at hB3
      have hs12 := b12.size
      have hq3' : ∀ q, v3.ownBlock = some q → w2.heap.size ≤ q := fun q hq => by
        rcases hq3 q hq with e | e
        · simp [Value.ownBlock] at e
        · exact e
      have lC2 : C < w2.heap.size := cu2.lt
      have oCD : C < D := by omega
      have cu3 := cu2.ch hch3 (by
        rintro (e | e)
        · omega
        · simp [Value.ownBlock] at e)
      have b13 : Below wr.heap.size wr w3 := b12.trans (hch3.below (fun x hx => by
        rcases hx with e | e
        · omega
        · simp [Value.ownBlock] at e) hs12)
      clear hch3 cu2 b12 hB2 hq3
      have HSK : Hid _ := skip_total C a len0 k w3 cu3 (by omega) (by omega)
      obtain ⟨er, her⟩ : ∃ er : Int, er = if k ≤ len0 then 0 else 10 := ⟨_, rfl⟩
      rw [← her] at HSK
      obtain ⟨pk, hpk⟩ : ∃ pk : Nat, pk = if k ≤ len0 then k else 0 := ⟨_, rfl⟩
      rw [← hpk] at HSK
      have hdec : (er == 0) = decide ((k : Int) ≤ len0) := by
        rw [her]
        by_cases h : k ≤ len0
        · simp [h]
        · simp [h]
      have HPK : Hid (pk = if k ≤ len0 then k else 0) := hpk
      clear her hpk
      go_wp2_with (first | (go_at_call 9; refine (num_any _ _).mono ?_; rintro e w' ⟨rfl, rfl⟩))
      refine Calls.mono HSK.out ?_
      rintro e w4 ⟨rfl, cu4, hg4⟩
      have hch4 := Ch.ofGrown hg4
      have hB4 := hB3.ch hch4 (fun x hx s => by
        simp only [Option.some.injEq] at s
        rcases hx with e | e
        · omega
        · have := hq3' x e; omega)
      have b14 : Below wr.heap.size wr w4 := b13.trans (hch4.below (fun x hx => by simp only [Option.some.injEq] at hx; omega) b13.size)
      have lC4 : C < w4.heap.size := cu4.lt
      have lD4 : D < w4.heap.size := hB4.lt
      obtain ⟨col', hF', hcol1, hcol2⟩ := hF.add b14 hws C D v3 [k] (by rw [← HPK.out]; exact cu4) hB4 oC (by omega) (fun q hq => by have := hq3' q hq; omega) (by omega)
      rw [ex_add] at hF'
      have hoc' := owns_kept1 hoc b14
      have hod' := owns_kept1 hod b14
      have hcc' : ∀ x, u5.ownBlock = some x → col' x = 0 := fun x hx => by rw [hcol1 x (hoc.lt x hx).2]; exact hcc x hx
      have hcd' : ∀ x, u6.ownBlock = some x → col' x = 0 := fun x hx => by rw [hcol1 x (hod.lt x hx).2]; exact hcd x hx
      have hB5 : Below w.heap.size w w4 := hbel.trans (b14.mono hws)
      have hws4 := hB5.size
      clear hg4 hch4 hB4 hB3 b13 b14 cu3 cu4 hq3' hoc hod hcc hcd hF hcol1 HSK HPK
      go_wp2_with (first
        | (go_at_call 9; refine (num_any _ _).mono ?_; rintro e w' ⟨rfl, rfl⟩)
        | (at_builtin; refine append_split rfl _ _ 52 rfl w.heap.size 54 i0 (.pointer none) 8 Try.underlying52 hi hz0 hz1 hz2 rfl u5 k (ptrs cB k) rfl (hoc'.alloc _) ⟨w4.heap.size, 0, none⟩ 1 1 [.pointer (some ⟨C, 0, none⟩)] rfl rfl (cell_ptr _ _ _) (by intro u hu; simp at hu; subst hu; rfl) (by unfold maxLen; omega) (by omega) (by simp; omega) ?_))
      intro v5 w5 ho5 hs5
      obtain ⟨hch5, hq5⟩ := split_ch hs5
      rw [← ptrs_add] at ho5
      have hF5 := hF'.ch hch5 hcc'
      have hc5 : ∀ x, v5.ownBlock = some x → col' x = 0 := fun x hx => by
        rcases hq5 x hx with e | e
        · exact hcc' x e
        · exact hcol2 x e
      have hod5 := hch5.owns hod' (apart' hod' hoc' (by decide))
      have hB6 : Below w.heap.size w w5 := hB5.trans (hch5.below (fun x hx => (hoc'.lt x hx).1) hws4)
      have hws5 := hB6.size
      have hsz5 := hch5.size
      clear hs5 hch5 hq5 hF' hcc' hod' hoc' hB5
      go_wp2_with (first
        | (at_builtin; refine append_split rfl _ _ 53 rfl w.heap.size 24 j0 (.pointer none) 8 Try.underlying53 gi gz0 gz1 gz2 rfl u6 k (ptrs dB k) rfl (hod5.alloc _) ⟨w5.heap.size, 0, none⟩ 1 1 [.pointer (some ⟨D, 0, none⟩)] rfl rfl (cell_ptr _ _ _) (by intro u hu; simp at hu; subst hu; rfl) (by unfold maxLen; omega) (by omega) (by simp; omega) ?_))
      intro v6 w6 ho6 hs6
      obtain ⟨hch6, hq6⟩ := split_ch hs6
      rw [← ptrs_add] at ho6
      have hF6 := hF5.ch hch6 hcd'
      have hc6 : ∀ x, v6.ownBlock = some x → col' x = 0 := fun x hx => by
        rcases hq6 x hx with e | e
        · exact hcd' x e
        · exact hcol2 x (by omega)
      have hoc6 := hch6.owns ho5 (apart' ho5 hod5 (by decide))
      have hB7 : Below w.heap.size w w6 := hB6.trans (hch6.below (fun x hx => (hod5.lt x hx).1) hws5)
      clear hs6 hch6 hq6 hF5 hcd' hod5 ho5 hB6
      go_wp2
      go_roundw
      case rel => exact ⟨k + 1, col', _, _, _, by omega, by go_num, hF6, hoc6, ho6, hc5, hc6, hB7⟩
      case measure => simp [intOf]; omega
    · have HK40 : Hid (k = 40) := by show k = 40; omega
      go_upto_region 16 with fail
      go_cut [70] (fun s wx => s = .bool (decide (n < 0 ∨ 40 ≤ n)) ∧ wr = wx)
      case first =>
        by_cases hn0 : n < 0
        · have hd : decide (n < 0 ∨ 40 ≤ n) = true := decide_eq_true (.inl hn0)
          go_wp2
          go_meet
          exact ⟨by rw [hd], rfl⟩
        · by_cases hn40 : 40 ≤ n
          · have hd : decide (n < 0 ∨ 40 ≤ n) = true := decide_eq_true (.inr hn40)
            go_wp2
            go_meet
            exact ⟨by rw [hd], rfl⟩
          · have hd : decide (n < 0 ∨ 40 ≤ n) = false := decide_eq_false (by omega)
            go_wp2
            go_meet
            exact ⟨by rw [hd], rfl⟩
      case rest =>
      obtain ⟨rfl, rfl⟩ := hcut
      go_upto_if 70 with fail
      go_cut [1] (fun s wx => ∃ N : Nat, N < 40 ∧ s = .int .i64 N ∧ wr = wx)
      case first =>
        by_cases hbad : n < 0 ∨ 40 ≤ n
        · rw [decide_eq_true hbad]
          go_wp2
          go_meet
          exact ⟨39, by omega, rfl, rfl⟩
        · rw [decide_eq_false hbad]
          go_wp2
          go_meet
          exact ⟨n.toNat, by omega, by congr 1; omega, rfl⟩
      case rest =>
      obtain ⟨N, hN40, rfl, rfl⟩ := hcut
      have HK : Hid (k = 40) := HK40
      have hNk : N < k := by have := HK40.out; omega
      obtain ⟨gc, ccap, e5⟩ := row_form hoc (by omega)
      obtain ⟨gd, dcap, e6⟩ := row_form hod (by omega)
      subst e5 e6
      have hdN := ptr_cell hod N hNk
      have HP : Hid _ := putB_ok (dB N) (dv N) 3 [N] 1 255 wr (hF.bld N hNk) (by decide) (by decide) (by decide) (by simp) (by decide)
      go_wp2_with fail
      refine Calls.mono HP.out ?_
      rintro e w1 ⟨rfl, v1, hB1, _, hch1⟩
      obtain ⟨hcur, hbld⟩ := hF.turn N hNk hch1 v1 _ hB1
      have hoc1 := hch1.owns hoc (fun g hg s => by have h1 := hcc g hg; have h2 := (hF.cD N hNk g s).1; omega)
      have hod1 := hch1.owns hod (fun g hg s => by have h1 := hcd g hg; have h2 := (hF.cD N hNk g s).1; omega)
      have hbel1 : Below w.heap.size w w1 := hbel.trans (hch1.below (fun x hx => (hF.cD N hNk x hx).2) hbel.size)
      have HCUR : Hid (∀ j, j < k → Cur w1 (cB j) a len0 (if j ≤ len0 then j else 0)) := hcur
      have HBLD : Hid (∀ j, j < k → ∃ v', Bld w1 (dB j) v' 3 (upd (fun j => [j]) N ([N] ++ byN 1 255) j)) := hbld
      clear hcur hbld hch1 hF hoc hod hcc hcd hbel HP hB1 hdN
      go_wp2_with (first | (go_at_call 9; refine (num_any _ _).mono ?_; rintro e w' ⟨rfl, rfl⟩))
      go_loopw [13] (fun ix wq => ∃ j : Nat, j ≤ 40 ∧ ix = .int .i64 j ∧ Below w1.heap.size w1 wq) (fun ix _ => 40 - (intOf ix).toNat)
      case atStart => exact ⟨0, by omega, rfl, Below.refl _ _⟩
      case round =>
        obtain ⟨j, hj, rfl, hbq⟩ := hrel
        by_cases hjl : j < 40
        · have hjk : j < k := by have := HK.out; omega
          have hcj := (HCUR.out j hjk).below hbq
          obtain ⟨vj, hbj⟩ := HBLD.out j hjk
          have hbj := hbj.below hbq
          have hocq := owns_kept1 hoc1 hbq
          have hodq := owns_kept1 hod1 hbq
          have hu : IntKind.u8.wrap (j : Int) = (j : Int) := by rw [IntKind.wrap_u8]; omega
          obtain ⟨L, hL⟩ : ∃ L : List Nat, L = if j = N then [j, 255] else [j] := ⟨_, rfl⟩
          have hbx : Bld wr (dB j) vj 3 L := by
            rw [hL]
            by_cases e : j = N
            · rw [if_pos e]; rw [e, upd_same, show byN 1 255 = [255] from by decide] at hbj; rw [e]; exact hbj
            · rw [if_neg e]; rw [upd_other _ _ _ e] at hbj; exact hbj
          have hL2 : L.length ≤ 65535 := by rw [hL]; split <;> simp
          have HL : Hid (L = if j = N then [j, 255] else [j]) := hL
          have hL3 : ∀ x ∈ L, x < 256 := by
            rw [hL]; intro x hx
            split at hx <;> simp at hx <;> omega
          obtain ⟨pj, hpj⟩ : ∃ pj : Nat, pj = if j ≤ len0 then j else 0 := ⟨_, rfl⟩
          rw [← hpj] at hcj
          have hpl : pj ≤ len0 := by rw [hpj]; split <;> omega
          have HPJ : Hid (pj = if j ≤ len0 then j else 0) := hpj
          clear hbj hL hpj
          go_upto_if 88 with fail
          go_cut [14] (fun s wx => ∃ g, s = .slice (some ⟨g, 0, none⟩) L.length L.length ∧ Seg .u8 wx (some ⟨g, 0, none⟩) (toI L) ∧ Below wr.heap.size wr wx)
          case first =>
            by_cases e : j = N
            · have hq : ((j : Int) == (N : Int)) = true := by rw [e]; simp
              have e' : L = [j, 255] := by rw [HL.out, if_pos e]
              have HE : Hid (L = [j, 255]) := e'
              clear e e' hL2 hL3 hbx
              go_wp2
              go_meet
              exact ⟨wr.heap.size + 1, by rw [HE.out]; rfl, by rw [HE.out]; exact seg_lit2' _ _ j 255 _ (by simp), ((Below.refl _ _).alloc (Nat.le_refl _) _).alloc (by simp) _⟩
            · have hq : ((j : Int) == (N : Int)) = false := beq_eq_false_iff_ne.2 (by omega)
              have e' : L = [j] := by rw [HL.out, if_neg e]
              have HE : Hid (L = [j]) := e'
              clear e e' hL2 hL3 hbx
              go_wp2
              go_meet
              exact ⟨wr.heap.size, by rw [HE.out]; rfl, by rw [HE.out]; exact seg_lit1 _ _ j, (Below.refl _ _).alloc (Nat.le_refl _) _⟩
          case rest =>
          obtain ⟨g, rfl, hsL, hbc⟩ := hcut
          go_upto_if 95 with fail
          go_cut [15] (fun s wx => s = .int .i64 pj ∧ wc = wx)
          case first =>
            by_cases hle : j ≤ len0
            · have e' : pj = j := by rw [HPJ.out, if_pos hle]
              have HE : Hid (pj = j) := e'
              clear e'
              go_wp2
              go_meet
              exact ⟨by rw [HE.out], rfl⟩
            · have e' : pj = 0 := by rw [HPJ.out, if_neg hle]
              have HE : Hid (pj = 0) := e'
              clear e'
              go_wp2
              go_meet
              exact ⟨by rw [HE.out]; rfl, rfl⟩
          case rest =>
          obtain ⟨rfl, rfl⟩ := hcut
          have hbw := hbc
          have d4 := ptr_cell (owns_kept1 hodq hbw) j hjk
          have hb4 := hbx.below hbw
          go_wp2_with fail
          refine (doneB_any (dB j) vj 3 L wc hb4 hL2).mono ?_
          rintro e w5 ⟨g', rfl, ho5, hb5⟩
          have hsw := Seg.old hsL hb5
          have hbw5 : Below wr.heap.size wr w5 := hbw.trans (hb5.mono hbw.size)
          have HSM : Hid _ := same_eq (some ⟨g', 0, none⟩) (some ⟨g, 0, none⟩) L.length L.length L.length L w5 rfl (owns_seg_at ho5) hsw hL3
          have d5 := ptr_cell (owns_kept1 hodq hbw5) j hjk
          have c5 := ptr_cell (owns_kept1 hocq hbw5) j hjk
          have hb55 := hbx.below hbw5
          have hc55 := hcj.below hbw5
          clear hsw ho5 hb5 d4
          go_wp2_with fail
          refine Calls.mono HSM.out ?_
          rintro e w6 ⟨rfl, rfl⟩
          go_wp2_with fail
          refine (lenB_any (dB j) vj 3 L w5 hb55).mono ?_
          rintro e w6 ⟨rfl, rfl⟩
          go_wp2_with fail
          refine (place_any (cB j) a len0 pj w5 hc55).mono ?_
          rintro e w6 ⟨rfl, rfl⟩
          go_wp2_with fail
          refine (left_any (cB j) a len0 pj w5 hc55 (by omega) (by omega)).mono ?_
          rintro e w6 ⟨rfl, hb6⟩
          have hbq6 : Below w1.heap.size w1 w6 := (hbq.trans (hbw5.mono hbq.size)).trans (hb6.mono (Nat.le_trans hbq.size hbw5.size))
          clear hb6 hbw5 d5 c5 hb55 hc55 hbx hcj
          go_wp2
          go_roundw
          case rel => exact ⟨j + 1, by omega, by go_num, hbq6⟩
          case measure => simp [intOf]; omega
        · go_wp2_with fail
          refine (started_any _).mono ?_
          rintro e w9 ⟨rfl, hb9⟩
          go_wp2
          go_ret
          have hbe : Below w.heap.size w wr := hbel1.trans (hbq.mono hbel1.size)
          exact ⟨rfl, hbe.trans (hb9.mono hbe.size)⟩
theorem walk (a0 : Option Addr) (len0 cap0 : Nat) (z0 : List Int) (n : Int) (w : World) (h0 : IsRow .u8 w a0 len0 cap0 z0) (h1 : (Lit.int .i64 n).wf = true) :
    Calls Try.prog 5 #[.slice a0 len0 cap0, .int .i64 n] w fun e w' => e = .returned (.bool true) ∧ Below w.heap.size w w' := walk0 w a0 len0 cap0 z0 h0 n h1
end Go.Proofs.Ytcgfdhmegagjdaa.viewMany
