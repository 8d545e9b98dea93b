/-
  The walk of ViewOwn.
-/
import Derived.Test.YtcgfdhmegagjdaaPackT
import Derived.Test.YtcgfdhmegagjdaaJoin
import Derived.Test.YtcgfdhmegagjdaaActedD
namespace Go.Proofs.Ytcgfdhmegagjdaa.viewOwn
open Go.RowKit Fm

theorem bs_new (B x : Nat) (h : BS B (.slice none 0 0) x) : x = B := by
  rcases h with h | h
  · exact h
  · simp [Value.ownBlock] at h
theorem parts_two (w : World) (S : Nat → Prop) (a : Option Addr) (len cap m c2 : Nat) (bs : List Nat) (hl : bs.length = len) (hm : m ≤ len) (hseg : Seg .u8 w a (toI bs)) (hN : ∀ x, a = some x → ¬ S x.block) (hM : ¬ S w.heap.size) :
    PartsAt (w.alloc (.cells #[.slice a len cap, .slice a m c2] 22)) S (some ⟨w.heap.size, 0, none⟩) [⟨a, cap, bs⟩, ⟨a, c2, bs.take m⟩] := by
  have hb : Below w.heap.size w (w.alloc (.cells #[.slice a len cap, .slice a m c2] 22)) := (Below.refl _ _).alloc (Nat.le_refl _) _
  refine .inr ⟨_, _, rfl, hM, by simp, fun i p hp => ?_⟩
  match i, hp with
  | 0, hp =>
    simp at hp
    subst hp
    exact ⟨by simp [go_sem, hl], hseg.old hb, fun y _ hy => hN y hy⟩
  | 1, hp =>
    simp at hp
    subst hp
    refine ⟨by simp [go_sem]; omega, ?_, fun y _ hy => hN y hy⟩
    have := (hseg.old hb).part0 m (by rw [toI_len, hl]; exact hm)
    rwa [toI_take] at this
  | i + 2, hp => simp at hp
def V4 (p1 p2 d1 d2 : Value) (i : Nat) : Value := if i = 0 then p1 else if i = 1 then p2 else if i = 2 then d1 else d2
def n4 (a b : Nat) (i : Nat) : Nat := if i < 2 then a else b
theorem row4 (p1 p2 d1 d2 : Value) : (List.range 4).map (V4 p1 p2 d1 d2) = [p1, p2, d1, d2] := by simp [List.range_succ, V4]
theorem cells4 (w : World) (a b c d : Value) (t : TypeId) (B : Nat) (hB : B ≤ w.heap.size) : (w.alloc (.cells #[a, b, c, d] t)).ownsRow B t 1 (.slice (some ⟨w.heap.size, 0, none⟩) 4 4) 4 [a, b, c, d] :=
  to_own (by show (w.heap.push _)[w.heap.size]? = some _; simp) hB rfl (by unfold maxLen; omega)
theorem seg_nil (k : IntKind) (w : World) : Seg k w none (toI []) := .inl rfl
theorem join_one (a : Option Addr) (c : Nat) (l : List Nat) (w : World) (hl : Seg .u8 w a (toI l)) (hn : l.length ≤ 1000000) :
    Calls Try.prog 14 #[.slice a l.length c, .slice none 0 0, .slice none 0 0] w fun e w' => ∃ a' c', e = .returned (.slice a' l.length c') ∧ w'.ownsRow w.heap.size 5 1 (.slice a' l.length c') l.length ((toI l).map (Value.int .u8)) ∧ Below w.heap.size w w' := by
  refine (join_any a none none c 0 0 l [] [] w hl (.inl rfl) (.inl rfl) (by simp; omega)).mono ?_
  rintro e w' ⟨v, rfl, ho, hb⟩
  simp only [List.length_nil, Nat.add_zero, List.append_nil] at ho
  obtain ⟨a', c', rfl⟩ := owns_shape ho
  exact ⟨a', c', rfl, ho, hb⟩
theorem kept {w w' : World} {B : Nat} {e : TypeId} {v : Value} {n : Nat} {xs : List Value} (h : w.ownsRow B e 1 v n xs) (hb : Below w.heap.size w w') : w'.ownsRow B e 1 v n xs := (Ch.ofBelow (S := none_) hb).owns h (fun _ _ => id)
theorem cells2' (w : World) (x y : Value) (t : TypeId) : ∀ j u, [x, y][j]? = some u → (w.alloc (.cells #[x, y] t)).cell? ((⟨w.heap.size, 0, none⟩ : Addr).add j) = some u := by
  intro j u hj
  match j, hj with
  | 0, hj => simp at hj; subst hj; simp [go_sem, Addr.add]
  | 1, hj => simp at hj; subst hj; simp [go_sem, Addr.add]
  | j + 2, hj => simp at hj

set_option maxRecDepth 100000 in
set_option maxHeartbeats 3200000 in
theorem walk0 (w : World) (a0 : Option Addr) (len0 cap0 : Nat) (bs : List Nat) (hbl : bs.length = len0) (hbs : Seg .u8 w a0 (toI bs)) (hb1 : len0 ≤ cap0) (hb2 : cap0 ≤ 9223372036854775807) (hb256 : ∀ x ∈ bs, x < 256)
    (a1 : Option Addr) (len1 cap1 : Nat) (ws : List Int) (hwl : ws.length = len1) (hws : Seg .i64 w a1 ws) (hw1 : len1 ≤ 9223372036854775807) (a2 : Option Addr) (len2 cap2 : Nat) (vs : List Int) (hvl : vs.length = len2) (hvs : Seg .i64 w a2 vs) :
    Calls Try.prog 3 #[.slice a0 len0 cap0, .slice a1 len1 cap1, .slice a2 len2 cap2] w fun e w' => e = .returned (.bool true) ∧ Below w.heap.size w w' := by
  obtain ⟨ii, hii, hiz0, hiz1, hiz2⟩ := info_parts Try.infoInt
  obtain ⟨L, er, hL256, hLb, HPK'⟩ := pack_det ws vs (by omega)
  have HPK : Hid (∀ (cap cap2 : Nat) (W : World), Below w.heap.size w W → Calls Try.prog 12 #[.slice a1 len1 cap, .slice a2 len2 cap2] W fun e w' => ∃ a c, e = .returned (.tuple #[.slice a L.length c, .int .i64 er]) ∧ w'.ownsRow W.heap.size 5 1 (.slice a L.length c) L.length ((toI L).map (Value.int .u8)) ∧ Below W.heap.size W w') :=
    fun cap cap2 W hW => HPK' a1 a2 len1 cap len2 cap2 W hwl hvl (hws.old hW) (hvs.old hW)
  have HFD : Hid (∀ (W : World), Below w.heap.size w W → Calls Try.prog 16 #[.slice a0 len0 cap0, .int .i64 0, .slice a1 len1 cap1] W fun e w' => ∃ v, e = .returned (.tuple #[v, .int .i64 (fP len0 0 ws), .int .i64 (fE len0 0 ws)]) ∧
      w'.ownsRow W.heap.size 3 1 v (fV bs 0 ws).length ((toI (fV bs 0 ws)).map (Value.int .i64)) ∧ Below W.heap.size W w') :=
    fun W hW => fields_total a0 a1 len0 cap0 len1 cap1 0 bs ws W hbl hwl (hbs.old hW) (hws.old hW) hb256 hb1 hb2 (by omega) hw1
  obtain ⟨fp, hfp⟩ : ∃ fp, fp = fP len0 0 ws := ⟨_, rfl⟩
  obtain ⟨fe, hfe⟩ : ∃ fe, fe = fE len0 0 ws := ⟨_, rfl⟩
  obtain ⟨fv, hfv⟩ : ∃ fv, fv = fV bs 0 ws := ⟨_, rfl⟩
  have hfl : fv.length ≤ 64 := by rw [hfv]; exact fV_len _ _ _
  rw [← hfp, ← hfe, ← hfv] at HFD
  clear hfp hfe hfv HPK' hwl hvl hws hvs
  go_enter Try.func3, Try.ntmps3
  go_wp2_with fail
  refine (newB_ok 60000 w (by decide)).mono ?_
  rintro e w1 ⟨rfl, hD1, hw1'⟩
  have b1 : Below w.heap.size w w1 := by rw [hw1']; exact (Below.refl _ _).alloc (Nat.le_refl _) _
  obtain ⟨D, hDe⟩ : ∃ D, D = w.heap.size := ⟨_, rfl⟩
  rw [← hDe] at hD1 ⊢
  have hDlo : w.heap.size ≤ D := by omega
  clear hw1' hDe
  go_wp2_with (first | (go_at_call 9; refine (num_any _ _).mono ?_; rintro e w' ⟨rfl, rfl⟩))
  refine (putB_ok D (.slice none 0 0) 60000 [] 2 515 w1 hD1 (by decide) (by decide) (by decide) (by decide) (by decide)).mono ?_
  rintro e w2 ⟨rfl, vd, hD2, hq2, hch2⟩
  rw [show ([] : List Nat) ++ byN 2 515 = [2, 3] from by decide] at hD2
  have hdlo : ∀ x, BS D vd x → w.heap.size ≤ x := by
    rintro x (e | e)
    · omega
    · rcases hq2 x e with e | e
      · simp [Value.ownBlock] at e
      · have := b1.size; omega
  have b2 : Below w.heap.size w w2 := b1.trans (hch2.below (fun x hx => by rw [bs_new D x hx]; exact hDlo) b1.size)
  clear hch2 hq2 hD1 b1
  go_upto_if 53 with (first | (go_at_call 9; refine (num_any _ _).mono ?_; rintro e w' ⟨rfl, rfl⟩))
  go_cut [8] (fun s wx => ∃ (es : Int) (vd : Value) (l : List Nat), s = .int .i64 es ∧ Bld wx D vd 60000 l ∧ l.length ≤ 60000 ∧ (∀ x ∈ l, x < 256) ∧ (∀ x, BS D vd x → w.heap.size ≤ x) ∧ Below w.heap.size w wx)
  case first =>
    by_cases h3 : (len0 : Int) ≤ 30000
    · have hsz2 := b2.size
      have hlt2 : ∀ x, BS D vd x → x < w2.heap.size := by
        rintro x (e | e)
        · rw [e]; exact hD2.lt
        · exact (hD2.own.lt x e).2
      have hbo := hbs.old b2
      have hlow : ∀ x, toI bs ≠ [] → a0 = some x → x.block < w.heap.size := by
        intro x hne hx
        rcases hbs with e | ⟨b, off, e, hc⟩
        · exact absurd e hne
        · rw [hx] at e
          simp only [Option.some.injEq] at e
          subst e
          have : 0 < (toI bs).length := by
            cases hh : toI bs with
            | nil => exact absurd hh hne
            | cons _ _ => simp
          exact World.block_lt_of_cell? w _ (hc 0 this)
      obtain ⟨m, hm⟩ : ∃ m, m = len0 / 2 := ⟨_, rfl⟩
      have hmI : (len0 : Int) / 2 = (m : Int) := by omega
      have hml : m ≤ len0 := by omega
      have hmc : (m : Int) ≤ (cap0 : Int) := by omega
      have HBL : Hid (bs.length = len0) := hbl
      have HP : Hid (∀ c2, PartsAt (w2.alloc (.cells #[.slice a0 len0 cap0, .slice a0 m c2] 22)) (BS D vd) (some ⟨w2.heap.size, 0, none⟩) [⟨a0, cap0, bs⟩, ⟨a0, c2, bs.take m⟩]) := by
        intro c2
        have hb : Below w2.heap.size w2 (w2.alloc (.cells #[.slice a0 len0 cap0, .slice a0 m c2] 22)) := (Below.refl _ _).alloc (Nat.le_refl _) _
        refine .inr ⟨_, _, rfl, fun s => by have := hlt2 _ s; omega, by simp, fun i p hp => ?_⟩
        match i, hp with
        | 0, hp =>
          simp at hp
          subst hp
          exact ⟨by simp [go_sem, hbl], hbo.old hb, fun y h1 hy s => by have := hlow y h1 hy; have := hdlo _ s; omega⟩
        | 1, hp =>
          simp at hp
          subst hp
          refine ⟨by simp [go_sem]; omega, ?_, fun y h1 hy s => ?_⟩
          · have := (hbo.old hb).part0 m (by rw [toI_len, hbl]; exact hml)
            rwa [toI_take] at this
          · have := hlow y (fun e => h1 (by rw [← toI_take, e]; simp)) hy
            have := hdlo _ s; omega
        | i + 2, hp => simp at hp
      have HB : Hid (∀ c2, Calls Try.prog 11 #[.pointer (some ⟨D, 0, none⟩), .slice (some ⟨w2.heap.size, 0, none⟩) 2 2] (w2.alloc (.cells #[.slice a0 len0 cap0, .slice a0 m c2] 22)) fun e w' => e = .returned (.int .i64 0) ∧ ∃ v', Bld w' D v' 60000 ([2, 3] ++ (bs ++ bs.take m)) ∧ (∀ q, v'.ownBlock = some q → vd.ownBlock = some q ∨ (w2.alloc (.cells #[.slice a0 len0 cap0, .slice a0 m c2] 22)).heap.size ≤ q) ∧ Ch (BS D vd) (w2.alloc (.cells #[.slice a0 len0 cap0, .slice a0 m c2] 22)) w') := by
        intro c2
        have := bytesB_ok D vd 60000 [2, 3] (some ⟨w2.heap.size, 0, none⟩) 2 [⟨a0, cap0, bs⟩, ⟨a0, c2, bs.take m⟩] _ (hD2.below ((Below.refl _ _).alloc (Nat.le_refl _) _)) (HP.out c2) (by simp [flat, hbl]; omega) (by decide) (by simp)
        simpa [flat] using this
      clear hm hbl hbs hbo
      go_wp2_with fail
      refine Calls.mono (HB.out _) ?_
      rintro e w3 ⟨rfl, v3, hD3, hq3, hch3⟩
      go_wp2_with (first | (go_at_call 9; refine (num_any _ _).mono ?_; rintro e w' ⟨rfl, rfl⟩))
      go_meet
      refine ⟨0, v3, _, rfl, hD3, by simp [HBL.out]; omega, ?_, ?_, ?_⟩
      · intro x hx
        simp only [List.mem_append, List.mem_cons, List.not_mem_nil, or_false] at hx
        rcases hx with (hx | hx) | hx | hx
        · omega
        · omega
        · exact hb256 x hx
        · exact hb256 x (List.mem_of_mem_take hx)
      · rintro x (e | e)
        · omega
        · rcases hq3 x e with e | e
          · exact hdlo x (.inr e)
          · simp at e; omega
      · exact (b2.alloc hsz2 _).trans (hch3.below (fun x hx => hdlo x hx) (by simp; omega))
    · go_wp2
      go_meet
      exact ⟨0, vd, [2, 3], rfl, hD2, by simp, by simp, hdlo, b2⟩
  case rest =>
  obtain ⟨es, vd', l, rfl, hD, hl60, hl256, hdlo', bc⟩ := hcut
  clear b2 hD2 hdlo vd
  obtain ⟨vd, rfl⟩ : ∃ vd, vd = vd' := ⟨_, rfl⟩
  have hDlt : ∀ x, BS D vd x → x < wc.heap.size := by
    rintro x (e | e)
    · rw [e]; exact hD.lt
    · exact (hD.own.lt x e).2
  go_wp2_with fail
  refine Calls.mono (HPK.out _ _ wc bc) ?_
  rintro e w1 ⟨p1a, p1c, rfl, hp1, hb_1⟩
  have bb1 : Below w.heap.size w w1 := bc.trans (hb_1.mono bc.size)
  go_wp2_with fail
  refine Calls.mono (HPK.out _ _ w1 bb1) ?_
  rintro e w2' ⟨p2a, p2c, rfl, hp2, hb_2⟩
  have bb2 : Below w.heap.size w w2' := bb1.trans (hb_2.mono bb1.size)
  have hDD2 := (hD.below hb_1).below hb_2
  have HL : Hid (l.length ≤ 65535) := by show _ ≤ _; omega
  go_wp2_with fail
  refine (doneB_any D vd 60000 l w2' hDD2 HL.out).mono ?_
  rintro e w3 ⟨d1g, rfl, hd1, hb_3⟩
  have hDD3 := hDD2.below hb_3
  go_wp2_with fail
  refine (doneB_any D vd 60000 l w3 hDD3 HL.out).mono ?_
  rintro e w4 ⟨d2g, rfl, hd2, hb_4⟩
  have hDD4 := hDD3.below hb_4
  have s1 := hb_1.size
  have s2 := hb_2.size
  have s3 := hb_3.size
  have s4 := hb_4.size
  have hp14 := kept (kept (kept hp1 hb_2) hb_3) hb_4
  have hp24 := kept (kept hp2 hb_3) hb_4
  have hd14 := kept hd1 hb_4
  have bb4 : Below w.heap.size w w4 := (bb2.trans (hb_3.mono bb2.size)).trans (hb_4.mono (by have := bb2.size; omega))
  go_wp2_with fail
  refine (join_one p1a p1c L w4 (owns_seg_at hp14) (by omega)).mono ?_
  rintro e w5 ⟨wa, wac, rfl, hwas, hb_5⟩
  have s5 := hb_5.size
  go_wp2_with fail
  refine (join_one (some ⟨d1g, 0, none⟩) l.length l w5 (owns_seg_at (kept hd14 hb_5)) (by omega)).mono ?_
  rintro e w6 ⟨da, dac, rfl, hdone, hb_6⟩
  have s6 := hb_6.size
  obtain ⟨P1, hP1⟩ : ∃ v, v = Value.slice p1a L.length p1c := ⟨_, rfl⟩
  obtain ⟨P2, hP2⟩ : ∃ v, v = Value.slice p2a L.length p2c := ⟨_, rfl⟩
  obtain ⟨Q1, hQ1⟩ : ∃ v, v = Value.slice (some ⟨d1g, 0, none⟩) l.length l.length := ⟨_, rfl⟩
  obtain ⟨Q2, hQ2⟩ : ∃ v, v = Value.slice (some ⟨d2g, 0, none⟩) l.length l.length := ⟨_, rfl⟩
  obtain ⟨w7, hw7⟩ : ∃ w7, w7 = w6.alloc (.cells #[Value.slice p1a L.length p1c, Value.slice p2a L.length p2c, Value.slice (some ⟨d1g, 0, none⟩) l.length l.length, Value.slice (some ⟨d2g, 0, none⟩) l.length l.length] 22) := ⟨_, rfl⟩
  have hb_7 : Below w6.heap.size w6 w7 := by rw [hw7]; exact (Below.refl _ _).alloc (Nat.le_refl _) _
  have hb47 : Below w4.heap.size w4 w7 := (hb_5.trans (hb_6.mono s5)).trans (hb_7.mono (by omega))
  have hlst : w7.ownsRow wc.heap.size 22 1 (.slice (some ⟨w6.heap.size, 0, none⟩) 4 4) 4 ((List.range 4).map (V4 P1 P2 Q1 Q2)) := by
    rw [row4, hw7, hP1, hP2, hQ1, hQ2]
    exact cells4 w6 _ _ _ _ _ _ (by omega)
  have r1 : w7.ownsRow wc.heap.size 5 1 P1 L.length ((toI L).map (Value.int .u8)) := by rw [hP1]; exact kept hp14 hb47
  have r2 : w7.ownsRow w1.heap.size 5 1 P2 L.length ((toI L).map (Value.int .u8)) := by rw [hP2]; exact kept hp24 hb47
  have r3 : w7.ownsRow w2'.heap.size 5 1 Q1 l.length ((toI l).map (Value.int .u8)) := by rw [hQ1]; exact kept hd14 hb47
  have r4 : w7.ownsRow w3.heap.size 5 1 Q2 l.length ((toI l).map (Value.int .u8)) := by rw [hQ2]; exact kept hd2 hb47
  have o1 : ∀ q, P1.ownBlock = some q → wc.heap.size ≤ q ∧ q < w1.heap.size := by rw [hP1]; exact fun q hq => hp1.lt q hq
  have o2 : ∀ q, P2.ownBlock = some q → w1.heap.size ≤ q ∧ q < w2'.heap.size := by rw [hP2]; exact fun q hq => hp2.lt q hq
  have o3 : ∀ q, Q1.ownBlock = some q → w2'.heap.size ≤ q ∧ q < w3.heap.size := by rw [hQ1]; exact fun q hq => hd1.lt q hq
  have o4 : ∀ q, Q2.ownBlock = some q → w3.heap.size ≤ q ∧ q < w4.heap.size := by rw [hQ2]; exact fun q hq => hd2.lt q hq
  have hV : ∀ i, i < 4 → ∀ q, (V4 P1 P2 Q1 Q2 i).ownBlock = some q → wc.heap.size ≤ q ∧ q < w4.heap.size := by
    intro i hi q hq
    match i, hi with
    | 0, _ => have := o1 q hq; omega
    | 1, _ => have := o2 q hq; omega
    | 2, _ => have := o3 q hq; omega
    | 3, _ => have := o4 q hq; omega
  have hdis : ∀ i j, i < 4 → j < 4 → i ≠ j → ∀ q, (V4 P1 P2 Q1 Q2 i).ownBlock = some q → (V4 P1 P2 Q1 Q2 j).ownBlock ≠ some q := by
    intro i j hi hj hne q hq hq'
    have g : ∀ i, i < 4 → (V4 P1 P2 Q1 Q2 i).ownBlock = some q → (i = 0 ∧ q < w1.heap.size) ∨ (i = 1 ∧ w1.heap.size ≤ q ∧ q < w2'.heap.size) ∨ (i = 2 ∧ w2'.heap.size ≤ q ∧ q < w3.heap.size) ∨ (i = 3 ∧ w3.heap.size ≤ q) := by
      intro i hi hq
      match i, hi with
      | 0, _ => have := o1 q hq; omega
      | 1, _ => have := o2 q hq; omega
      | 2, _ => have := o3 q hq; omega
      | 3, _ => have := o4 q hq; omega
    have h1 := g i hi hq
    have h2 := g j hj hq'
    omega
  have HFL : Hid _ := filled_any w6.heap.size 4 4 (V4 P1 P2 Q1 Q2) (n4 L.length l.length) (fun i => if i < 2 then (toI L).map (Value.int .u8) else (toI l).map (Value.int .u8)) w7 wc.heap.size hlst (by
    intro i hi
    match i, hi with
    | 0, _ => exact r1
    | 1, _ => exact owns_mono r2 s1
    | 2, _ => exact owns_mono r3 (by omega)
    | 3, _ => exact owns_mono r4 (by omega)) hdis (by decide) (fun i => by unfold n4; split <;> omega) (by have := hb_7.size; omega)
  have hwas7 := kept (kept hwas hb_6) hb_7
  have hdone7 := kept hdone hb_7
  have hD7 := ((hDD4.below hb_5).below hb_6).below hb_7
  have bb7 : Below w.heap.size w w7 := bb4.trans (hb47.mono bb4.size)
  have hwasl := (kept hwas hb_6).lt
  have hdonel := hdone.lt
  have HW7 : Hid (w7 = w6.alloc (.cells #[Value.slice p1a L.length p1c, Value.slice p2a L.length p2c, Value.slice (some ⟨d1g, 0, none⟩) l.length l.length, Value.slice (some ⟨d2g, 0, none⟩) l.length l.length] 22)) := hw7
  clear hP1 hP2 hQ1 hQ2 hw7 hlst r1 r2 r3 r4 o1 o2 o3 o4 hdis hp1 hp2 hd1 hd2 hp14 hp24 hd14 hwas hdone hDD2 hDD3 hDD4 hb_1 hb_2 hb_3 hb_4 hb_5 hb_6 hb47 bb1 bb2 bb4
  go_wp2_with fail
  rw [← HW7.out]
  clear HW7
  refine Calls.mono HFL.out ?_
  rintro e w8 ⟨mv, F, M, rfl, hmv, hF, hM⟩
  obtain ⟨mb, mc, rfl, _, _⟩ := own_block hmv (by decide)
  have hStd := Std.of hF hM hmv
  have hch8 := hF.ch
  have s7 := hb_7.size
  have s8 := hch8.size
  have hwas8 := hch8.owns hwas7 (fun q hq s => by obtain ⟨i, hi, e⟩ := s; have h1 := hV i hi q e; have h2 := (hwas7.lt q hq).1; omega)
  have hdone8 := hch8.owns hdone7 (fun q hq s => by obtain ⟨i, hi, e⟩ := s; have h1 := hV i hi q e; have h2 := (hdone7.lt q hq).1; omega)
  have hD8 := hD7.ch hch8 (fun q hq s => by obtain ⟨i, hi, e⟩ := s; have h1 := hV i hi q e; have h2 := hDlt q hq; omega)
  have bb8 : Below w.heap.size w w8 := bb7.trans (hch8.below (fun q s => by obtain ⟨i, hi, e⟩ := s; have h1 := hV i hi q e; have := bc.size; omega) bb7.size)
  obtain ⟨lb, hlb⟩ : ∃ lb, lb = w6.heap.size := ⟨_, rfl⟩
  rw [← hlb] at hStd ⊢
  clear hlb HFL hF hM hmv hch8 hwas7 hdone7 hD7 hV hwasl hdonel hb_7 bb7
  go_wp2_with fail
  refine Calls.mono (HFD.out w8 bb8) ?_
  rintro e w9 ⟨f1, rfl, hf1, hb_9⟩
  have bb9 : Below w.heap.size w w9 := bb8.trans (hb_9.mono bb8.size)
  go_wp2_with fail
  refine Calls.mono (HFD.out w9 bb9) ?_
  rintro e w10 ⟨f2, rfl, hf2, hb_10⟩
  have s9 := hb_9.size
  have s10 := hb_10.size
  have hf1l := hf1.lt
  have hf1' := kept hf1 hb_10
  have hB8 : Below w8.heap.size w8 w10 := hb_9.trans (hb_10.mono s9)
  obtain ⟨f1a, f1c, rfl⟩ := owns_shape hf1
  obtain ⟨nf, hnf⟩ : ∃ nf, nf = fv.length := ⟨_, rfl⟩
  rw [← hnf] at hf1 hf1' hfl hf1l ⊢
  have HNF : Hid (fv.length = nf) := hnf.symm
  clear hnf hf1 hb_9 hb_10
  go_wp2
  go_loopw [26] (fun ix wr => ∃ (k : Nat) (xs : List Value), k ≤ nf ∧ ix = .int .i64 k ∧ wr.ownsRow w8.heap.size 3 1 (.slice f1a nf f1c) nf xs ∧ Ch (fun x => (Value.slice f1a nf f1c).ownBlock = some x) w10 wr) (fun ix _ => nf - (intOf ix).toNat)
  case atStart => exact ⟨0, _, by omega, rfl, hf1', Ch.refl _ _⟩
  case round =>
  obtain ⟨k, xs, hk, rfl, hown, hch⟩ := hrel
  by_cases hkl : k < nf
  · obtain ⟨gw, cw, ew, _, _⟩ := own_block hown (by omega)
    simp only [Value.slice.injEq, true_and] at ew
    obtain ⟨rfl, rfl⟩ := ew
    have hc : ∃ z, wr.cell? ⟨gw, k, none⟩ = some z := by
      have hxl := hown.1
      have := hown.cellAt k (by omega)
      rw [List.getElem?_eq_getElem (by omega)] at this
      exact ⟨_, this⟩
    obtain ⟨z, hz⟩ := hc
    have hfz := hown.frozenAt k
    obtain ⟨hst, _⟩ := hown.stored k (.int .i64 (-1))
    have hch2 := hch.set ⟨gw, k, none⟩ (.int .i64 (-1)) rfl
    clear hown hch
    go_wp2
    go_roundw
    case rel => exact ⟨k + 1, _, by omega, by go_num, hst, hch2⟩
    case measure => simp [intOf]; omega
  · obtain rfl : k = nf := by omega
    clear hkl hf1'
    have hsr := hch.size
    go_wp2_with (at_builtin; refine append_keep rfl (.tmp 117) (.tmp 118) 23 rfl w8.heap.size 3 ii (.int .i64 0) 8 Try.underlying23 hii hiz0 hiz1 hiz2 rfl (.slice f1a k f1c) k xs rfl (hown.alloc _) ⟨wr.heap.size, 0, none⟩ 1 1 [.int .i64 (-2)] rfl rfl (cell_ptr' _ _ _) (by intro u hu; simp at hu; subst hu; rfl) (by unfold maxLen; omega) (by omega) (by simp; omega) ?_)
    intro v11 w11 ho11 hk11 hch11 _
    obtain ⟨g1a, g1c, rfl⟩ := owns_shape ho11
    have hcha : Ch (fun x => (Value.slice f1a k f1c).ownBlock = some x) w10 w11 := (hch.alloc _).trans hch11 (fun _ _ s => s)
    have s11 := hcha.size
    clear ho11 hch11 hown hch
    go_wp2_with (at_builtin; refine append_keep rfl (.tmp 120) (.tmp 121) 23 rfl w8.heap.size 3 ii (.int .i64 0) 8 Try.underlying23 hii hiz0 hiz1 hiz2 rfl (.slice f1a k f1c) k xs rfl (hk11.alloc _) ⟨w11.heap.size, 0, none⟩ 2 2 [.int .i64 (-3), .int .i64 (-3)] rfl rfl (cells2' _ _ _ _) (by intro u hu; simp at hu; rcases hu with rfl | rfl <;> rfl) (by unfold maxLen; omega) (by omega) (by simp; omega) ?_)
    intro v12 w12 ho12 hk12 hch12 _
    obtain ⟨g2a, g2c, rfl⟩ := owns_shape ho12
    have hchb : Ch (fun x => (Value.slice f1a k f1c).ownBlock = some x) w10 w12 := (hcha.alloc _).trans hch12 (fun _ _ s => s)
    have hB12 : Below w8.heap.size w8 w12 := hB8.trans (hchb.below (fun q hq => (hf1l q hq).1) hB8.size)
    have hf2' := hchb.owns hf2 (fun q hq e => by have h1 := (hf2.lt q hq).1; have h2 := (hf1l q e).2; omega)
    have bb12 : Below w.heap.size w w12 := bb8.trans (hB12.mono bb8.size)
    have s12 := hB12.size
    clear ho12 hk12 hch12 hk11 hcha hchb hf2 hB8 hf1l
    go_wp2_with fail
    refine Calls.mono (HFD.out w12 bb12) ?_
    rintro e w13 ⟨f3, rfl, hf3, hb13⟩
    have hB13 : Below w8.heap.size w8 w13 := hB12.trans (hb13.mono s12)
    have hf2'' := kept hf2' hb13
    obtain ⟨f2a, f2c, rfl⟩ := owns_shape hf2''
    obtain ⟨f3a, f3c, rfl⟩ := owns_shape hf3
    have hStd13 := hStd.below hB13
    have HS13 : Hid (Calls Try.prog 17 #[.slice (some ⟨lb, 0, none⟩) 4 4, .slice (some ⟨mb, 0, none⟩) (3 * 4) mc] w13 fun e w' => e = .returned (.bool true) ∧ w13 = w') := stand_any _ _ _ _ _ _ _ _ _ _ w13 hStd13 (by decide) (fun i => by unfold n4; split <;> omega)
    have HI13 : Hid _ := sameInts_true f2a f3a f2c f3c k (toI fv) w13 (owns_seg_at hf2'') (owns_seg_at hf3) (by rw [toI_len, HNF.out]) (by omega)
    have bb13 : Below w.heap.size w w13 := bb12.trans (hb13.mono bb12.size)
    rw [HNF.out]
    clear hf2' hf2'' hf3 hb13 hB12 bb12 hStd13
    go_wp2_with fail
    refine Calls.mono HS13.out ?_
    rintro e w' ⟨rfl, rfl⟩
    go_wp2_with fail
    refine Calls.mono HI13.out ?_
    rintro e w14 ⟨rfl, hb14⟩
    have hB14 : Below w8.heap.size w8 w14 := hB13.trans (hb14.mono hB13.size)
    have bb14 : Below w.heap.size w w14 := bb13.trans (hb14.mono bb13.size)
    clear HS13 HI13 hB13 bb13 hb14
    go_wp2_with fail
    refine Calls.mono (HPK.out _ _ w14 bb14) ?_
    rintro e w15 ⟨p3a, p3c, rfl, hp3, hb15⟩
    have hB15 : Below w8.heap.size w8 w15 := hB14.trans (hb15.mono hB14.size)
    have bb15 : Below w.heap.size w w15 := bb14.trans (hb15.mono bb14.size)
    have HS15 : Hid _ := same_eq' p3a wa L.length p3c wac L w15 rfl (owns_seg_at hp3) (owns_seg_at ((Ch.ofBelow (S := none_) hB15).owns hwas8 (fun _ _ => id))) hLb
    have hD15 := hD8.ch (Ch.ofBelow (S := none_) hB15) (fun _ _ => id)
    clear hp3 hb15 bb14 hB14
    go_wp2_with fail
    refine Calls.mono HS15.out ?_
    rintro e w' ⟨rfl, rfl⟩
    go_wp2_with fail
    refine (doneB_any D vd 60000 l w15 hD15 HL.out).mono ?_
    rintro e w16 ⟨d3g, rfl, hd3, hb16⟩
    have hB16 : Below w8.heap.size w8 w16 := hB15.trans (hb16.mono hB15.size)
    have bb16 : Below w.heap.size w w16 := bb15.trans (hb16.mono bb15.size)
    have HS16 : Hid _ := same_eq' (some ⟨d3g, 0, none⟩) da l.length l.length dac l w16 rfl (owns_seg_at hd3) (owns_seg_at ((Ch.ofBelow (S := none_) hB16).owns hdone8 (fun _ _ => id))) hl256
    have HT16 : Hid (Calls Try.prog 17 #[.slice (some ⟨lb, 0, none⟩) 4 4, .slice (some ⟨mb, 0, none⟩) (3 * 4) mc] w16 fun e w' => e = .returned (.bool true) ∧ w16 = w') := stand_any _ _ _ _ _ _ _ _ _ _ w16 (hStd.below hB16) (by decide) (fun i => by unfold n4; split <;> omega)
    clear hd3 hb16 hB15 bb15 HS15 hD15
    go_wp2_with fail
    refine Calls.mono HS16.out ?_
    rintro e w' ⟨rfl, rfl⟩
    go_wp2_with fail
    refine Calls.mono HT16.out ?_
    rintro e w' ⟨rfl, rfl⟩
    go_wp2
    go_ret
    exact ⟨rfl, bb16⟩
theorem walk (a0 : Option Addr) (len0 cap0 : Nat) (z0 : List Int) (a1 : Option Addr) (len1 cap1 : Nat) (z1 : List Int) (a2 : Option Addr) (len2 cap2 : Nat) (z2 : List Int) (w : World) (h0 : IsRow .u8 w a0 len0 cap0 z0) (h1 : IsRow .i64 w a1 len1 cap1 z1) (h2 : IsRow .i64 w a2 len2 cap2 z2) :
    Calls Try.prog 3 #[.slice a0 len0 cap0, .slice a1 len1 cap1, .slice a2 len2 cap2] w fun e w' => e = .returned (.bool true) ∧ Below w.heap.size w w' := by
  obtain ⟨bs, hbl, hbs, hb1, hb2, hb256⟩ := h0.bytes
  obtain ⟨ws, hwl, hws, hw1, hw2, _⟩ := h1.seg
  obtain ⟨vs, hvl, hvs, _, _, _⟩ := h2.seg
  exact walk0 w a0 len0 cap0 bs hbl hbs hb1 hb2 hb256 a1 len1 cap1 ws hwl hws (by omega) a2 len2 cap2 vs hvl hvs
end Go.Proofs.Ytcgfdhmegagjdaa.viewOwn
