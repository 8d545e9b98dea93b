/-
  Port17 Rl1, one behind the other.
-/
import Derived.Test.YthknkfggpdhdbaaK3c
import Derived.Test.YthknkfggpdhdbaaK3i
import Derived.Test.YthknkfggpdhdbaaK3k
import Derived.Test.YthknkfggpdhdbaaK3m
namespace Go.Proofs.Ythknkfggpdhdbaa
open Go.RowKit

/-- a step's cells -/
def opCells (kd : Int) (two : Bool) (i n : Int) (a : Option Addr) (len c : Nat) : Array Value := #[.int .i64 kd, .bool two, .int .i64 i, .int .i64 n, .slice a len c]
/-- what a step may turn of the places -/
def Turns (kd r : Int) (s s' : PS) : Prop := (r ≠ 0 → s'.pl = s.pl) ∧ (kd ≠ 1 → ∃ i0, ∀ j, j ≠ i0 → s'.pl j = s.pl j)
theorem Turns.same (kd r : Int) {s s' : PS} (h : s'.pl = s.pl) : Turns kd r s s' := ⟨fun _ => h, fun _ => ⟨0, fun j _ => by rw [h]⟩⟩
theorem Turns.one (kd : Int) {s s' : PS} (i v : Nat) (h : s'.pl = updF s.pl i v) : Turns kd 0 s s' := ⟨fun e => absurd rfl e, fun _ => ⟨i, fun j hj => by rw [h, updF_other _ _ _ hj]⟩⟩
theorem Turns.many {s s' : PS} (r : Int) (hr : r = 0) : Turns 1 r s s' := ⟨fun e => absurd hr e, fun e => absurd rfl e⟩
set_option maxRecDepth 100000 in
set_option maxHeartbeats 3200000 in
theorem do_any (w : World) (P gb gf gr gt : Nat) (s : PS) (h : PortAt w P gb gf gr gt s) (hi : PInv s) (kd : Int) (two : Bool) (i n : Int) (a : Option Addr) (c : Nat) (fr : List Nat) (hseg : Seg .u8 w a (toI fr)) (h256 : ∀ x ∈ fr, x < 256) (hap : ∀ x, fr ≠ [] → a = some x → x.block ≠ P ∧ x.block ≠ gb) :
    Calls Try.prog 31 #[.pointer (some ⟨P, 0, none⟩), .agg (opCells kd two i n a fr.length c)] w fun e w' => ∃ s' r, e = .returned (.int .i64 r) ∧ Played w w' P gb gf gr gt s s' ∧ Turns kd r s s' := by
  obtain ⟨W, hW⟩ : ∃ W, W = w.alloc (.cells (opCells kd two i n a fr.length c) 68) := ⟨_, rfl⟩
  have hb1 : Below w.heap.size w W := by rw [hW]; exact (Below.refl _ _).alloc (Nat.le_refl _) _
  have hc : ∀ j, W.cell? ⟨w.heap.size, j, none⟩ = (opCells kd two i n a fr.length c)[j]? := fun j => by rw [hW, World.cell?_alloc_at _ _ _ _ rfl]
  have c0 : W.cell? ⟨w.heap.size, 0, none⟩ = some (.int .i64 kd) := by rw [hc]; rfl
  have c2 : W.cell? ⟨w.heap.size, 2, none⟩ = some (.int .i64 i) := by rw [hc]; rfl
  have c3 : W.cell? ⟨w.heap.size, 3, none⟩ = some (.int .i64 n) := by rw [hc]; rfl
  have c4 : W.cell? ⟨w.heap.size, 4, none⟩ = some (.slice a fr.length c) := by rw [hc]; rfl
  have H0 : Played w W P gb gf gr gt s s := .none h hi hb1
  have hseg1 := hseg.old hb1
  obtain ⟨C, hC⟩ : ∃ C, C = opCells kd two i n a fr.length c := ⟨_, rfl⟩
  rw [← hC] at hW ⊢
  have HW : Hid (w.alloc (.cells C 68) = W) := hW.symm
  obtain ⟨O, hO⟩ : ∃ O, O = w.heap.size := ⟨_, rfl⟩
  rw [← hO] at c0 c2 c3 c4
  have HO : Hid (w.heap.size = O) := hO.symm
  have q1 : Hid _ := refill_t H0.port H0.inv n
  have q2 : Hid _ := arrive_t H0.port H0.inv a c fr hseg1 h256 hap
  have q3 : Hid _ := poll_t H0.port H0.inv
  have q4 : Hid _ := take_t H0.port H0.inv
  have q5 : Hid _ := buffer_t H0.port H0.inv i
  have q6 : Hid _ := release_t H0.port H0.inv i
  have q7 : Hid _ := send_t H0.port H0.inv i n
  have q8 : Hid _ := drain_t H0.port H0.inv
  obtain ⟨ln, hln⟩ : ∃ ln, ln = fr.length := ⟨_, rfl⟩
  rw [← hln] at c4
  have HL : Hid (fr.length = ln) := hln.symm
  rw [HL.out] at q2
  clear hW hC hO hc hb1 hseg hseg1 h h256 hap hln
  by_cases e1 : kd = 1
  case pos =>
    subst e1
    clear q2 q3 q4 q5 q6 q7 q8
    go_enter Try.func31, Try.ntmps31
    go_upto_region 1 with fail
    rw [HW.out, HO.out]
    go_wp2_with fail
    refine Calls.mono q1.out ?_
    rintro e w2 ⟨k, _, rfl, hp⟩
    clear q1
    go_wp2
    go_ret
    exact ⟨_, 0, rfl, H0.trans hp, .many 0 rfl⟩
  have n1 : (kd == 1) = false := by simpa using e1
  by_cases e2 : kd = 2
  case pos =>
    subst e2
    clear q1 q3 q4 q5 q6 q7 q8
    go_enter Try.func31, Try.ntmps31
    go_upto_region 1 with fail
    rw [HW.out, HO.out]
    go_wp2_with fail
    refine Calls.mono q2.out ?_
    rintro e w2 ⟨rfl, ⟨hne, hb⟩ | ⟨he, hk, b, hp⟩⟩
    · obtain ⟨r, hr⟩ : ∃ r, r = aE s ln := ⟨_, rfl⟩
      rw [← hr]
      have H1 := H0.trans (.none H0.port H0.inv hb)
      clear q2 hne hb hr
      go_wp2_with (first | (go_at_call 14; refine (num_any _ _).mono ?_; rintro e w9 ⟨rfl, rfl⟩))
      go_ret
      exact ⟨s, r, rfl, H1, .same _ _ rfl⟩
    · rw [he]
      clear q2 he
      go_wp2_with (first | (go_at_call 14; refine (num_any _ _).mono ?_; rintro e w9 ⟨rfl, rfl⟩))
      go_ret
      exact ⟨_, 0, rfl, H0.trans hp, .one _ _ _ rfl⟩
  have n2 : (kd == 2) = false := by simpa using e2
  by_cases e3 : kd = 3
  case pos =>
    subst e3
    clear q1 q2 q4 q5 q6 q7 q8
    go_enter Try.func31, Try.ntmps31
    go_upto_region 1 with fail
    rw [HW.out, HO.out]
    go_wp2_with fail
    refine Calls.mono q3.out ?_
    rintro e w2 (⟨_, rfl, rfl⟩ | ⟨m, i1, b, rest, _, _, _, rfl, _, hp⟩)
    · clear q3
      go_wp2
      go_ret
      exact ⟨s, 0, rfl, H0, .same _ _ rfl⟩
    · clear q3
      go_wp2
      go_ret
      exact ⟨_, 0, rfl, H0.trans hp, .one _ _ _ rfl⟩
  have n3 : (kd == 3) = false := by simpa using e3
  by_cases e4 : kd = 4
  case pos =>
    subst e4
    clear q1 q2 q3 q5 q6 q7 q8
    go_enter Try.func31, Try.ntmps31
    go_upto_region 1 with fail
    rw [HW.out, HO.out]
    go_wp2_with fail
    refine Calls.mono q4.out ?_
    rintro e w2 (⟨_, rfl, rfl⟩ | ⟨i1, b, rest, _, _, rfl, _, hp⟩)
    · clear q4
      go_wp2_with (first | (go_at_call 14; refine (num_any _ _).mono ?_; rintro e w9 ⟨rfl, rfl⟩))
      go_ret
      exact ⟨s, 33, rfl, H0, .same _ _ rfl⟩
    · clear q4
      go_wp2_with (first | (go_at_call 14; refine (num_any _ _).mono ?_; rintro e w9 ⟨rfl, rfl⟩))
      go_ret
      exact ⟨_, 0, rfl, H0.trans hp, .one _ _ _ rfl⟩
  have n4 : (kd == 4) = false := by simpa using e4
  by_cases e5 : kd = 5
  case pos =>
    subst e5
    clear q1 q2 q3 q4 q6 q7 q8
    go_enter Try.func31, Try.ntmps31
    go_upto_region 1 with fail
    rw [HW.out, HO.out]
    go_wp2_with fail
    refine Calls.mono q5.out ?_
    rintro e w2 (⟨_, rfl, rfl⟩ | ⟨k, b, _, _, _, _, rfl, _, hp⟩)
    · obtain ⟨r, hr⟩ : ∃ r, r = hE s i := ⟨_, rfl⟩
      rw [← hr]
      clear q5 hr
      go_wp2_with (first | (go_at_call 14; refine (num_any _ _).mono ?_; rintro e w9 ⟨rfl, rfl⟩))
      go_ret
      exact ⟨s, r, rfl, H0, .same _ _ rfl⟩
    · clear q5
      go_wp2_with (first | (go_at_call 14; refine (num_any _ _).mono ?_; rintro e w9 ⟨rfl, rfl⟩))
      go_ret
      exact ⟨_, 0, rfl, H0.trans hp, .same _ _ rfl⟩
  have n5 : (kd == 5) = false := by simpa using e5
  by_cases e6 : kd = 6
  case pos =>
    subst e6
    clear q1 q2 q3 q4 q5 q7 q8
    go_enter Try.func31, Try.ntmps31
    go_upto_region 1 with fail
    rw [HW.out, HO.out]
    go_wp2_with fail
    refine Calls.mono q6.out ?_
    rintro e w2 ⟨rfl, ⟨_, rfl⟩ | ⟨k, _, he, _, _, hp⟩⟩
    · obtain ⟨r, hr⟩ : ∃ r, r = hE s i := ⟨_, rfl⟩
      rw [← hr]
      clear q6 hr
      go_wp2_with (first | (go_at_call 14; refine (num_any _ _).mono ?_; rintro e w9 ⟨rfl, rfl⟩))
      go_ret
      exact ⟨s, r, rfl, H0, .same _ _ rfl⟩
    · rw [he]
      clear q6 he
      go_wp2_with (first | (go_at_call 14; refine (num_any _ _).mono ?_; rintro e w9 ⟨rfl, rfl⟩))
      go_ret
      exact ⟨_, 0, rfl, H0.trans hp, .one _ _ _ rfl⟩
  have n6 : (kd == 6) = false := by simpa using e6
  by_cases e7 : kd = 7
  case pos =>
    subst e7
    clear q1 q2 q3 q4 q5 q6 q8
    go_enter Try.func31, Try.ntmps31
    go_upto_region 1 with fail
    rw [HW.out, HO.out]
    go_wp2_with fail
    refine Calls.mono q7.out ?_
    rintro e w2 ⟨rfl, ⟨_, hb⟩ | ⟨k, m, _, _, he, _, _, _, hp⟩⟩
    · obtain ⟨r, hr⟩ : ∃ r, r = sE s i n := ⟨_, rfl⟩
      rw [← hr]
      have H1 := H0.trans (.none H0.port H0.inv hb)
      clear q7 hb hr
      go_wp2_with (first | (go_at_call 14; refine (num_any _ _).mono ?_; rintro e w9 ⟨rfl, rfl⟩))
      go_ret
      exact ⟨s, r, rfl, H1, .same _ _ rfl⟩
    · rw [he]
      clear q7 he
      go_wp2_with (first | (go_at_call 14; refine (num_any _ _).mono ?_; rintro e w9 ⟨rfl, rfl⟩))
      go_ret
      exact ⟨_, 0, rfl, H0.trans hp, .one _ _ _ rfl⟩
  have n7 : (kd == 7) = false := by simpa using e7
  by_cases e8 : kd = 8
  case pos =>
    subst e8
    clear q1 q2 q3 q4 q5 q6 q7
    go_enter Try.func31, Try.ntmps31
    go_upto_region 1 with fail
    rw [HW.out, HO.out]
    go_wp2_with fail
    refine Calls.mono q8.out ?_
    rintro e w2 (⟨_, rfl, rfl⟩ | ⟨i1, g, b, rest, _, _, rfl, _, _, _, hp⟩)
    · clear q8
      go_wp2
      go_ret
      exact ⟨s, 0, rfl, H0, .same _ _ rfl⟩
    · clear q8
      go_wp2
      go_ret
      exact ⟨_, 0, rfl, H0.trans hp, .one _ _ _ rfl⟩
  have n8 : (kd == 8) = false := by simpa using e8
  clear q1 q2 q3 q4 q5 q6 q7 q8
  go_enter Try.func31, Try.ntmps31
  go_upto_region 1 with fail
  rw [HW.out, HO.out]
  go_wp2
  go_ret
  exact ⟨s, 0, rfl, H0, .same _ _ rfl⟩
end Go.Proofs.Ythknkfggpdhdbaa
namespace Go.Proofs.Ythknkfggpdhdbaa.Rl
open Go.RowKit

variable {B : Nat} {w0 w w' : World} {P gb gf gr gt K J p : Nat} {s s' : PS}
theorem drain_l (h : PortAt w P gb gf gr gt s) (hi : PInv s) :
    Calls Try.prog 23 #[.pointer (some ⟨P, 0, none⟩)] w fun e w' => ∃ (a : Option Addr) (l : List Nat) (ok : Bool) (s' : PS), e = .returned (.tuple #[.slice a l.length l.length, .bool ok]) ∧ (ok = false → l = []) ∧ Bk.OwnB w' w.heap.size (.slice a l.length l.length) l.length l ∧ Played w w' P gb gf gr gt s s' ∧ ((∀ x ∈ l, x < 256) ∧ l.length ≤ 65535) ∧ ∀ q, (Value.slice a l.length l.length).ownBlock = some q → ¬ PB P gb gf gr gt s' q := by
  refine (drain_t h hi).mono ?_
  rintro e w' (⟨_, rfl, rfl⟩ | ⟨i, g, b, rest, hr, hlt, rfl, ho, hgb, hbb, pl⟩)
  · exact ⟨none, [], false, s, rfl, fun _ => rfl, World.ownsRow_nil _ _ _ _, Played.none h hi (Below.refl _ _), ⟨by simp, by simp⟩, fun q hq => by simp [Value.ownBlock] at hq⟩
  · obtain ⟨l, hl⟩ : ∃ l, l = (s.da i).take (s.ln i) := ⟨_, rfl⟩
    rw [← hl] at ho
    have e : l.length = s.ln i := by have := ho.1; simpa [toI] using this
    rw [← e] at ho ⊢
    have hg := (form0 ho).2.1
    have hln := hi.ln i hlt
    have hsz := h.sz2
    refine ⟨some ⟨g, 0, none⟩, l, true, _, rfl, fun e => (by cases e), ho, pl, ⟨fun x hx => ?_, by omega⟩, fun q hq hP => ?_⟩
    · rw [hl] at hx; exact h.d256 i hlt x (List.mem_of_mem_take hx)
    · have eq : g = q := by simpa [Value.ownBlock] using hq
      subst eq
      have hn : ¬ PB P gb gf gr gt s g := fun e => by have := h.rowlt e; omega
      rcases hP with e | e | e | e | e | ⟨j, hj, e⟩
      · exact hn (.inl e)
      · exact hn (.inr (.inl e))
      · exact hn (.inr (.inr (.inl e)))
      · exact hn (.inr (.inr (.inr (.inl e))))
      · exact hn (.inr (.inr (.inr (.inr (.inl e)))))
      · by_cases hji : j = i
        · subst hji
          have e' : updF s.bb j (some b) j = some g := e
          rw [updF_same] at e'
          exact hgb (by cases e'; rfl)
        · have e' : updF s.bb i (some b) j = some g := e
          rw [updF_other _ _ _ hji] at e'
          exact hn (.inr (.inr (.inr (.inr (.inr ⟨j, hj, e'⟩)))))
/-- the places, as numbers -/
def pL (s : PS) : List Int := (List.range s.pool).map (fun i => (s.pl i : Int))
theorem pL_len (s : PS) : (pL s).length = s.pool := by simp [pL]
theorem pL_256 (hi : PInv s) : ∀ y ∈ pL s, y < 256 := fun y hy => by
  obtain ⟨i, hi', rfl⟩ := List.mem_map.1 hy
  have := (hi.pr i (List.mem_range.1 hi')).2
  omega
theorem places_l (h : PortAt w P gb gf gr gt s) (hp : s.pool = p) :
    Calls Try.prog 28 #[.pointer (some ⟨P, 0, none⟩)] w fun e w' => ∃ g, e = .returned (.slice (some ⟨g, 0, none⟩) p p) ∧ Ib.OwnB w' w.heap.size (.slice (some ⟨g, 0, none⟩) p p) p (pL s) ∧ Below w.heap.size w w' := by
  refine (Places_any w P gb gf gr gt s h).mono ?_
  rintro e w' ⟨g, rfl, ho, hb⟩
  rw [hp] at ho
  refine ⟨g, by rw [hp], ?_, hb⟩
  have e : nV ((List.range p).map s.pl) = (Ib.toI (pL s)).map (Value.int .i64) := by simp [nV, pL, Ib.toI, hp]
  rw [Ib.OwnB, ← e]; exact ho
structure RlS where
  s : PS
  vL : Value
  vW : Value
  E : List Bk.BE
  xL : Value
  xW : Value
  X : List Ib.BE
structure Rl (B : Nat) (w0 w : World) (P gb gf gr gt K J p : Nat) (t : RlS) : Prop where
  port : PortAt w P gb gf gr gt t.s
  inv : PInv t.s
  pool : t.s.pool = p
  book : Bk.BookAt w B K t.vL t.vW t.E
  ints : Ib.BookAt w B J t.xL t.xW t.X
  bel : Below B w0 w
  pB : ∀ q, PB P gb gf gr gt t.s q → B ≤ q
  pk : ∀ q, PB P gb gf gr gt t.s q → ¬ Bk.bB K t.vL t.vW t.E q
  pi : ∀ q, PB P gb gf gr gt t.s q → ¬ Ib.bB J t.xL t.xW t.X q
  ki : ∀ q, Bk.bB K t.vL t.vW t.E q → ¬ Ib.bB J t.xL t.xW t.X q
  sz : B ≤ w.heap.size
variable {t : RlS}
theorem Rl.below (h : Rl B w0 w P gb gf gr gt K J p t) (k : Below w.heap.size w w') : Rl B w0 w' P gb gf gr gt K J p t :=
  ⟨h.port.below k, h.inv, h.pool, h.book.below k, h.ints.below k, h.bel.trans (k.mono h.sz), h.pB, h.pk, h.pi, h.ki, Nat.le_trans h.sz k.size⟩
theorem Rl.played (h : Rl B w0 w P gb gf gr gt K J p t) (k : Played w w' P gb gf gr gt t.s s') : Rl B w0 w' P gb gf gr gt K J p { t with s := s' } :=
  ⟨k.port, k.inv, k.pool.trans h.pool, h.book.ch k.ch (fun q hq e => h.pk q e hq), h.ints.ch k.ch (fun q hq e => h.pi q e hq), h.bel.trans (k.ch.below h.pB h.sz), fun q hq => (k.blk q hq).elim (h.pB q) (fun e => Nat.le_trans h.sz e),
    fun q hq e => (k.blk q hq).elim (fun o => h.pk q o e) (fun o => by have := (h.book.lt q e).2; omega), fun q hq e => (k.blk q hq).elim (fun o => h.pi q o e) (fun o => by have := (h.ints.lt q e).2; omega), h.ki, Nat.le_trans h.sz k.ch.size⟩
theorem Rl.keptK {vL' vW' : Value} {e : Bk.BE} (h : Rl B w0 w P gb gf gr gt K J p t) (k : Bk.Kept w w' B K t.vL t.vW vL' vW' t.E e) (h1 : ∀ q, e.v.ownBlock = some q → ¬ PB P gb gf gr gt t.s q) (h2 : ∀ q, e.v.ownBlock = some q → ¬ Ib.bB J t.xL t.xW t.X q) : Rl B w0 w' P gb gf gr gt K J p { t with vL := vL', vW := vW', E := t.E ++ [e] } :=
  ⟨h.port.ch k.ch (fun q hq e => h.pk q hq e), h.inv, h.pool, k.bk, h.ints.ch k.ch (fun q hq e => h.ki q e hq), h.bel.trans (k.ch.below (fun q hq => (h.book.lt q hq).1) h.sz), h.pB,
    fun q hq e => by
      rcases k.new q e with o | o | o
      · exact h.pk q hq o
      · exact h1 q o hq
      · have := h.port.rowlt hq; omega,
    h.pi,
    fun q hq e => by
      rcases k.new q hq with o | o | o
      · exact h.ki q o e
      · exact h2 q o e
      · have := (h.ints.lt q e).2; omega, Nat.le_trans h.sz k.ch.size⟩
theorem Rl.keptI {xL' xW' : Value} {e : Ib.BE} (h : Rl B w0 w P gb gf gr gt K J p t) (k : Ib.Kept w w' B J t.xL t.xW xL' xW' t.X e) (h1 : ∀ q, e.v.ownBlock = some q → ¬ PB P gb gf gr gt t.s q) (h2 : ∀ q, e.v.ownBlock = some q → ¬ Bk.bB K t.vL t.vW t.E q) : Rl B w0 w' P gb gf gr gt K J p { t with xL := xL', xW := xW', X := t.X ++ [e] } :=
  ⟨h.port.ch k.ch (fun q hq e => h.pi q hq e), h.inv, h.pool, h.book.ch k.ch (fun q hq e => h.ki q hq e), k.bk, h.bel.trans (k.ch.below (fun q hq => (h.ints.lt q hq).1) h.sz), h.pB, h.pk,
    fun q hq e => by
      rcases k.new q e with o | o | o
      · exact h.pi q hq o
      · exact h1 q o hq
      · have := h.port.rowlt hq; omega,
    fun q hq e => by
      rcases k.new q e with o | o | o
      · exact h.ki q hq o
      · exact h2 q o hq
      · have := (h.book.lt q hq).2; omega, Nat.le_trans h.sz k.ch.size⟩
theorem rl_new {ws : World} {r tt p sz : Nat} (hp : PortAt ws P gb gf gr gt (newK r tt p sz p)) (hb : Below B w0 ws) (hs : B ≤ ws.heap.size) (hq : ∀ q, PB P gb gf gr gt (newK r tt p sz p) q → B ≤ q) :
    Rl B w0 ((ws.alloc (.cells #[.slice none 0 0, .slice none 0 0] 48)).alloc (.cells #[.slice none 0 0, .slice none 0 0] 66)) P gb gf gr gt ws.heap.size (ws.heap.size + 1) p ⟨newK r tt p sz p, .slice none 0 0, .slice none 0 0, [], .slice none 0 0, .slice none 0 0, []⟩ := by
  obtain ⟨w1, hw1⟩ : ∃ w1, w1 = ws.alloc (.cells #[.slice none 0 0, .slice none 0 0] 48) := ⟨_, rfl⟩
  have b1 : Below ws.heap.size ws w1 := by rw [hw1]; exact (Below.refl _ _).alloc (Nat.le_refl _) _
  have z1 : w1.heap.size = ws.heap.size + 1 := by rw [hw1, World.size_alloc]
  have d1 : Bk.BookAt w1 B ws.heap.size (.slice none 0 0) (.slice none 0 0) [] := by
    rw [hw1]
    refine ⟨?_, ?_, fun j => ?_, ⟨rfl, .inl ⟨rfl, rfl⟩⟩, ⟨rfl, .inl ⟨rfl, rfl⟩⟩, fun e he => by simp at he, fun e he => by simp at he, List.Pairwise.nil, fun e he => by simp at he, fun e he => by simp at he, ⟨by simp [Value.ownBlock], by simp [Value.ownBlock]⟩, .inl rfl, hs⟩
    · have e := Bk.news_at ws 48 [.slice none 0 0, .slice none 0 0] 0 _ rfl; rwa [Addr.add_lit, Nat.zero_add] at e
    · have e := Bk.news_at ws 48 [.slice none 0 0, .slice none 0 0] 1 _ rfl; rwa [Addr.add_lit, Nat.zero_add] at e
    · rw [frozen?_alloc_cells]; simp [World.frozen?]
  rw [← hw1]
  obtain ⟨w2, hw2⟩ : ∃ w2, w2 = w1.alloc (.cells #[.slice none 0 0, .slice none 0 0] 66) := ⟨_, rfl⟩
  have b2 : Below w1.heap.size w1 w2 := by rw [hw2]; exact (Below.refl _ _).alloc (Nat.le_refl _) _
  have k2 : Ib.BookAt w2 B (ws.heap.size + 1) (.slice none 0 0) (.slice none 0 0) [] := by
    rw [hw2, ← z1]
    refine ⟨?_, ?_, fun j => ?_, ⟨rfl, .inl ⟨rfl, rfl⟩⟩, ⟨rfl, .inl ⟨rfl, rfl⟩⟩, fun e he => by simp at he, fun e he => by simp at he, List.Pairwise.nil, fun e he => by simp at he, fun e he => by simp at he, ⟨by simp [Value.ownBlock], by simp [Value.ownBlock]⟩, .inl rfl, by omega⟩
    · have e := Bk.news_at w1 66 [.slice none 0 0, .slice none 0 0] 0 _ rfl; rwa [Addr.add_lit, Nat.zero_add] at e
    · have e := Bk.news_at w1 66 [.slice none 0 0, .slice none 0 0] 1 _ rfl; rwa [Addr.add_lit, Nat.zero_add] at e
    · rw [frozen?_alloc_cells]; simp [World.frozen?]
  rw [← hw2]
  have p1 := hp.below b1
  have p2 := p1.below b2
  have z2 := b2.size
  have nB : ∀ q, Bk.bB ws.heap.size (.slice none 0 0) (.slice none 0 0) [] q → q = ws.heap.size := by
    rintro q (e | e | e | ⟨e, he, _⟩)
    · exact e
    · simp [Value.ownBlock] at e
    · simp [Value.ownBlock] at e
    · simp at he
  have nI : ∀ q, Ib.bB (ws.heap.size + 1) (.slice none 0 0) (.slice none 0 0) [] q → q = ws.heap.size + 1 := by
    rintro q (e | e | e | ⟨e, he, _⟩)
    · exact e
    · simp [Value.ownBlock] at e
    · simp [Value.ownBlock] at e
    · simp at he
  refine ⟨p2, newK_inv _ _ _ _, rfl, d1.below b2, k2, hb.trans ((b1.mono hs).trans (b2.mono (by omega))), hq, fun q hq e => ?_, fun q hq e => ?_, fun q hq e => ?_, by omega⟩
  · have := hp.rowlt hq
    have := nB q e
    omega
  · have := hp.rowlt hq
    have := nI q e
    omega
  · have := nB q hq
    have := nI q e
    omega
end Go.Proofs.Ythknkfggpdhdbaa.Rl
