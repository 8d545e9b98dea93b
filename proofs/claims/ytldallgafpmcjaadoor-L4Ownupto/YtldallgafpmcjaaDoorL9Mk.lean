/-
  marked, holds: a row gets its mark, is lengthened in four ways; all of them are looked at.
-/
import Derived.Test.YtldallgafpmcjaaDoorL9Fam
import Derived.Test.YtldallgafpmcjaaDoorL9Clone
import Derived.Deep.DeepCutAuto
namespace Go.Proofs.YtldallgafpmcjaaDoor
open Go.RowKit
namespace F9
theorem infoBytes : (Tryd.prog.info? 25).map (fun i => (i.zero, i.size, i.bytes)) = some (some (.slice none 0 0), 1, 24) := by kernel_rfl
abbrev mk1 (m : Nat) : List Value := [.int .u8 (m : Int)]
theorem rep_at (m : Nat) : ∀ n k : Nat, k < n → (rep n (mk1 m))[k]? = some (.int .u8 (m : Int))
  | 0, k, h => by omega
  | n + 1, 0, _ => by simp [rep, List.replicate_succ]
  | n + 1, k + 1, h => by
    have := rep_at m n k (by omega)
    simpa [rep, List.replicate_succ] using this
theorem rep_all (n m : Nat) : rep n (mk1 m) = List.replicate n (.int .u8 (m : Int)) := by
  induction n with
  | zero => rfl
  | succ n ih => rw [rep, List.replicate_succ, List.flatten_cons, List.replicate_succ, ← ih]; rfl
/-- a new block of n marks -/
theorem news_mk (w : World) (n m : Nat) (T : TypeId) (C : Array Value) (hC : C.toList = List.replicate n (.int .u8 (m : Int))) : ∀ j u, (rep n (mk1 m))[j]? = some u → (w.alloc (.cells C T)).cell? ((⟨w.heap.size, 0, none⟩ : Addr).add j) = some u := by
  intro j u hu
  rw [Addr.add_lit, Nat.zero_add, World.cell?_alloc_at _ _ _ _ rfl]
  rw [rep_all, ← hC] at hu
  simpa using hu
theorem row_fill {w : World} {B g n c k m : Nat} {xs : List Value} (h : w.ownsRow B 5 1 (.slice (some ⟨g, 0, none⟩) n c) n (rep k (mk1 m) ++ xs.drop k)) (hl : xs.length = n) (hk : k < n) : (w.setCell ⟨g, k, none⟩ (.int .u8 (m : Int))).ownsRow B 5 1 (.slice (some ⟨g, 0, none⟩) n c) n (rep (k + 1) (mk1 m) ++ xs.drop (k + 1)) := by
  have h1 := (h.stored k (.int .u8 (m : Int))).1
  have e : (rep k (mk1 m) ++ xs.drop k).set k (.int .u8 (m : Int)) = rep (k + 1) (mk1 m) ++ xs.drop (k + 1) := by
    rw [List.set_append_right _ _ (by rw [rep_len]; simp), rep_len, rep_add, List.drop_eq_getElem_cons (show k < xs.length by omega), show k - k * (mk1 m).length = 0 by simp, List.set_cons_zero, List.append_assoc]
    rfl
  rw [e] at h1
  exact h1
/-- what marked hands out -/
structure MG (w : World) (X m : Nat) (F : List (Value × Nat)) : Prop where
  len : F.length = 5
  cells : ∀ i r, F[i]? = some r → w.cell? ⟨X, i, none⟩ = some r.1
  rows : ∀ r, r ∈ F → w.ownsRow 0 5 1 r.1 r.2 (rep r.2 (mk1 m)) ∧ r.2 ≤ 2097152
  lt : X < w.heap.size
  kx : ∃ cur, w.heap[X]? = some (.cells cur 25 (0, 0))
def gB (X : Nat) (F : List (Value × Nat)) (q : Nat) : Prop := q = X ∨ ∃ r, r ∈ F ∧ r.1.ownBlock = some q
theorem MG.ch {S : Nat → Prop} {w w' : World} {X m : Nat} {F : List (Value × Nat)} (h : MG w X m F) (c : Ch S w w') (hS : ∀ q, gB X F q → ¬ S q) : MG w' X m F :=
  ⟨h.len, fun i r hr => c.cell (h.cells i r hr) (hS X (.inl rfl)), fun r hr => ⟨c.owns (h.rows r hr).1 (fun q hq => hS q (.inr ⟨r, hr, hq⟩)), (h.rows r hr).2⟩, Nat.lt_of_lt_of_le h.lt c.size, by rw [c.block X h.lt (hS X (.inl rfl))]; exact h.kx⟩
theorem MG.below {w w' : World} {X m : Nat} {F : List (Value × Nat)} (h : MG w X m F) (b : Below w.heap.size w w') : MG w' X m F := h.ch (Ch.ofBelow (S := fun _ => False) b) (fun _ _ => id)
theorem MG.blk {w : World} {X m : Nat} {F : List (Value × Nat)} (h : MG w X m F) {q : Nat} (hq : gB X F q) : q < w.heap.size := by
  rcases hq with rfl | ⟨r, hr, hq⟩
  · exact h.lt
  · exact ((h.rows r hr).1.lt q hq).2
set_option maxHeartbeats 1600000 in
set_option maxRecDepth 100000 in
theorem full_any (m : Nat) (w : World) : Calls Tryd.prog 37 #[.int .u8 (m : Int)] w fun e w' => ∃ a c, e = .returned (.slice a 70 c) ∧ w'.ownsRow w.heap.size 5 1 (.slice a 70 c) 70 (rep 70 (mk1 m)) ∧ Below w.heap.size w w' := by
  obtain ⟨i0, hi, hz0, hz1, hz2⟩ := info_parts Tryd.infoByte
  have H0 : Hid (w.ownsRow w.heap.size 5 1 (.slice none 0 0) 0 (rep 0 (mk1 m)) ∧ Below w.heap.size w w) := ⟨World.ownsRow_nil _ _ _ _, Below.refl _ _⟩
  go_enter Tryd.func37, Tryd.ntmps37
  go_wp2
  go_loopw [3, 4] (fun lx ix wr => ∃ (k : Nat) (a : Option Addr) (c : Nat), k ≤ 70 ∧ lx = .slice a k c ∧ ix = .int .i64 (k : Int) ∧ Hid (wr.ownsRow w.heap.size 5 1 (.slice a k c) k (rep k (mk1 m)) ∧ Below w.heap.size w wr)) (fun _ ix _ => 70 - (intOf ix).toNat)
  case atStart => exact ⟨0, none, 0, by omega, rfl, rfl, H0⟩
  case round =>
    obtain ⟨k, a, c, hk, rfl, rfl, HK⟩ := hrel
    clear H0
    by_cases hge : 70 ≤ k
    · have d1 : ¬ (k : Int) < 70 := by omega
      have HE : Hid (wr.ownsRow w.heap.size 5 1 (.slice a 70 c) 70 (rep 70 (mk1 m)) ∧ Below w.heap.size w wr ∧ k = 70) := by
        have := HK.out
        rw [show k = 70 by omega] at this
        exact ⟨this.1, this.2, by omega⟩
      clear hge HK
      go_wp2
      go_ret
      refine ⟨a, c, ?_, HE.out.1, HE.out.2.1⟩
      rw [HE.out.2.2]
      rfl
    · have d1 : (k : Int) < 70 := by omega
      have hsz := HK.out.2.size
      go_wp2_with (first | (at_builtin; refine wpList_append_own _ rfl (.tmp 9) (.tmp 11) 25 rfl w.heap.size 5 i0 (.int .u8 0) 1 1 Tryd.underlying25 hi hz0 hz1 hz2 rfl (by decide) _ _ _ rfl (HK.out.1.alloc _) ⟨wr.heap.size, 0, none⟩ 1 1 [.int .u8 (m : Int)] rfl rfl ?f1 ?f2 ?f3 ?f4 ?f5 ?_))
      try (case f1 => exact news_mk wr 1 m _ _ rfl)
      try (case f2 => first | rfl | (intro u hu; simp at hu; subst hu; rfl))
      try (case f3 => unfold maxLen; omega)
      try (case f4 => omega)
      try (case f5 => first | omega | (simp; omega))
      intro v6 w6 ho6 hg6 _
      obtain ⟨a6, c6, rfl⟩ := owns_shape ho6
      have HN : Hid (w6.ownsRow w.heap.size 5 1 (.slice a6 (k + 1) c6) (k + 1) (rep (k + 1) (mk1 m)) ∧ Below w.heap.size w w6) := by
        refine ⟨by rw [rep_add]; exact ho6, ?_⟩
        exact HK.out.2.trans (((Ch.ofBelow (S := fun q => (Value.slice a k c).ownBlock = some q) ((Below.refl _ _).alloc (Nat.le_refl wr.heap.size) _)).trans (Ch.ofGrown hg6) (fun _ _ q => q)).below (fun x q => (HK.out.1.lt x q).1) hsz)
      clear ho6 hg6 HK hge
      go_wp2
      go_roundw
      case rel => exact ⟨k + 1, a6, c6, by omega, rfl, by go_num, HN⟩
      case measure => simp [intOf]; omega
/-- while marked lengthens the row: those that are there -/
structure MS (w : World) (la : Option Addr) (n lc m T : Nat) (F : List (Value × Nat)) (wr : World) : Prop where
  fy : Fy wr 0 5 (mk1 m) (.slice la n lc) n T F
  ch : Ch (fun q => (Value.slice la n lc).ownBlock = some q) w wr
  at' : ∀ r, r ∈ F → ∀ q, r.1.ownBlock = some q → (Value.slice la n lc).ownBlock = some q ∨ w.heap.size ≤ q
theorem MS.below {w : World} {la : Option Addr} {n lc m T : Nat} {F : List (Value × Nat)} {wr w' : World} (h : MS w la n lc m T F wr) (b : Below wr.heap.size wr w') : MS w la n lc m T F w' :=
  ⟨h.fy.below b, h.ch.trans (Ch.ofBelow (S := fun _ => False) b) (fun _ _ q => q.elim), h.at'⟩
theorem MS.app {w : World} {la : Option Addr} {n lc m T k : Nat} {F : List (Value × Nat)} {wr w' : World} {v : Value} (h : MS w la n lc m T F wr) (f1 : Fy w' 0 5 (mk1 m) (.slice la n lc) n k (F ++ [(v, n + k)])) (f2 : Ch (fun q => (Value.slice la n lc).ownBlock = some q) wr w') (f3 : ∀ q, v.ownBlock = some q → (Value.slice la n lc).ownBlock = some q ∨ wr.heap.size ≤ q) : MS w la n lc m k (F ++ [(v, n + k)]) w' := by
  refine ⟨f1, h.ch.trans f2 (fun _ _ q => q), fun r hr q hq => ?_⟩
  rcases List.mem_append.1 hr with e | e
  · exact h.at' r e q hq
  · rw [List.mem_singleton.1 e] at hq
    rcases f3 q hq with z | z
    · exact .inl z
    · exact .inr (Nat.le_trans h.ch.size z)
set_option maxHeartbeats 6400000 in
set_option maxRecDepth 100000 in
theorem marked_any (B : Nat) (la : Option Addr) (n lc m : Nat) (xs : List Value) (w : World) (hl : w.ownsRow B 5 1 (.slice la n lc) n xs) (hn : n ≤ 1048576) :
    Calls Tryd.prog 12 #[.slice la n lc, .int .u8 (m : Int)] w fun e w' => ∃ X F, e = .returned (.slice (some ⟨X, 0, none⟩) 5 5) ∧ MG w' X m F ∧ Ch (fun q => (Value.slice la n lc).ownBlock = some q) w w' ∧ ∀ q, gB X F q → (Value.slice la n lc).ownBlock = some q ∨ w.heap.size ≤ q := by
  obtain ⟨i0, hi, hz0, hz1, hz2⟩ := info_parts Tryd.infoByte
  have HXL : Hid (xs.length = n) := by
    show xs.length = n
    have := hl.1
    simpa using this
  have HL0 : Hid (w.ownsRow 0 5 1 (.slice la n lc) n (rep 0 (mk1 m) ++ xs.drop 0) ∧ Ch (fun q => (Value.slice la n lc).ownBlock = some q) w w) := ⟨by have := owns_le hl (Nat.zero_le B); simpa [rep_zero] using this, Ch.refl _ _⟩
  clear hl
  go_enter Tryd.func12, Tryd.ntmps12
  go_wp2
  go_loopw [5] (fun ix wr => ∃ k : Nat, k ≤ n ∧ ix = .int .i64 (k : Int) ∧ Hid (wr.ownsRow 0 5 1 (.slice la n lc) n (rep k (mk1 m) ++ xs.drop k) ∧ Ch (fun q => (Value.slice la n lc).ownBlock = some q) w wr)) (fun ix _ => n - (intOf ix).toNat)
  case atStart => exact ⟨0, Nat.zero_le _, rfl, HL0⟩
  case round =>
    obtain ⟨k, hk, rfl, HK⟩ := hrel
    clear HL0
    by_cases hge : n ≤ k
    · have d0 : ¬ (k : Int) < (n : Int) := by omega
      have H0 : Hid (MS w la n lc m 0 [] wr) := by
        have := HK.out.1
        rw [show k = n by omega, List.drop_of_length_le (by rw [HXL.out]; exact Nat.le_refl _), List.append_nil] at this
        exact ⟨⟨this, fun r hr => by simp at hr⟩, HK.out.2, fun r hr => by simp at hr⟩
      clear hge HK HXL
      go_upto_region 5 with fail
      clear d0 hk
      have HB1 : Hid (∀ o : Obj, MS w la n lc m 0 [] (wr.alloc o)) := fun o => H0.out.below ((Below.refl _ _).alloc (Nat.le_refl _) _)
      go_wp2_with (first | (at_builtin; refine append_fy rfl (.tmp 20) (.tmp 22) 25 rfl 0 5 i0 _ 1 (mk1 m) Nat.one_pos Tryd.underlying25 hi hz0 hz1 hz2 rfl (.slice la n lc) n 0 [] rfl (HB1.out _).fy ⟨wr.heap.size, 0, none⟩ 1 1 rfl (by decide) ?m11 ?m12 ?m13 ?m14 (Nat.zero_le _) ?_))
      try (case m11 => exact news_mk wr 1 m _ _ rfl)
      try (case m12 => first | rfl | (intro u hu; simp only [List.mem_cons, List.not_mem_nil, or_false] at hu; subst hu; rfl))
      try (case m13 => unfold maxLen; omega)
      try (case m14 => omega)
      intro v1 wb ff
      obtain ⟨f1, f2, f3, a1, c1, rfl⟩ := ff.out
      have H1 : Hid (MS w la n lc m 1 ([] ++ [((.slice a1 (n + 1) c1), n + 1)]) wb) := (HB1.out (.cells #[.int .u8 (m : Int)] 5)).app f1 f2 (fun q hq => (f3 q hq).imp id (fun z => by simpa using z))
      clear ff f1 f2 f3 H0 HB1
      have HB2 : Hid (∀ o : Obj, MS w la n lc m 1 [((.slice a1 (n + 1) c1), n + 1)] (wb.alloc o)) := fun o => H1.out.below ((Below.refl _ _).alloc (Nat.le_refl _) _)
      go_wp2_with (first | (at_builtin; refine append_fy rfl (.tmp 24) (.tmp 27) 25 rfl 0 5 i0 _ 1 (mk1 m) Nat.one_pos Tryd.underlying25 hi hz0 hz1 hz2 rfl (.slice la n lc) n 1 [((.slice a1 (n + 1) c1), n + 1)] rfl (HB2.out _).fy ⟨wb.heap.size, 0, none⟩ 2 2 rfl (by decide) ?m21 ?m22 ?m23 ?m24 (Nat.zero_le _) ?_))
      try (case m21 => exact news_mk wb 2 m _ _ rfl)
      try (case m22 => first | rfl | (intro u hu; simp only [List.mem_cons, List.not_mem_nil, or_false] at hu; subst hu; rfl))
      try (case m23 => unfold maxLen; omega)
      try (case m24 => omega)
      intro v2 wc ff
      obtain ⟨f1, f2, f3, a2, c2, rfl⟩ := ff.out
      have H2 : Hid (MS w la n lc m 2 ([((.slice a1 (n + 1) c1), n + 1)] ++ [((.slice a2 (n + 2) c2), n + 2)]) wc) := (HB2.out (.cells #[.int .u8 (m : Int), .int .u8 (m : Int)] 5)).app f1 f2 (fun q hq => (f3 q hq).imp id (fun z => by simpa using z))
      clear ff f1 f2 f3 H1 HB2
      have HB3 : Hid (∀ o : Obj, MS w la n lc m 2 [((.slice a1 (n + 1) c1), n + 1), ((.slice a2 (n + 2) c2), n + 2)] (wc.alloc o)) := fun o => H2.out.below ((Below.refl _ _).alloc (Nat.le_refl _) _)
      go_wp2_with (first | (at_builtin; refine append_fy rfl (.tmp 29) (.tmp 33) 25 rfl 0 5 i0 _ 1 (mk1 m) Nat.one_pos Tryd.underlying25 hi hz0 hz1 hz2 rfl (.slice la n lc) n 2 [((.slice a1 (n + 1) c1), n + 1), ((.slice a2 (n + 2) c2), n + 2)] rfl (HB3.out _).fy ⟨wc.heap.size, 0, none⟩ 3 3 rfl (by decide) ?m31 ?m32 ?m33 ?m34 (Nat.zero_le _) ?_))
      try (case m31 => exact news_mk wc 3 m _ _ rfl)
      try (case m32 => first | rfl | (intro u hu; simp only [List.mem_cons, List.not_mem_nil, or_false] at hu; subst hu; rfl))
      try (case m33 => unfold maxLen; omega)
      try (case m34 => omega)
      intro v3 wd ff
      obtain ⟨f1, f2, f3, a3, c3, rfl⟩ := ff.out
      have H3 : Hid (MS w la n lc m 3 ([((.slice a1 (n + 1) c1), n + 1), ((.slice a2 (n + 2) c2), n + 2)] ++ [((.slice a3 (n + 3) c3), n + 3)]) wd) := (HB3.out (.cells #[.int .u8 (m : Int), .int .u8 (m : Int), .int .u8 (m : Int)] 5)).app f1 f2 (fun q hq => (f3 q hq).imp id (fun z => by simpa using z))
      clear ff f1 f2 f3 H2 HB3
      go_wp2_with fail
      refine Calls.mono (full_any m wd) ?_
      rintro e w8 ⟨fa, fc, rfl, ho8, hb8⟩
      have H4 : Hid (MS w la n lc m 3 [((.slice a1 (n + 1) c1), n + 1), ((.slice a2 (n + 2) c2), n + 2), ((.slice a3 (n + 3) c3), n + 3)] w8) := H3.out.below hb8
      obtain ⟨X8, hX8, hc8⟩ : ∃ X8, fa = some ⟨X8, 0, none⟩ ∧ ∀ j u, (rep 70 (mk1 m))[j]? = some u → w8.cell? ((⟨X8, 0, none⟩ : Addr).add j) = some u := by
        rcases ho8.2 with ⟨_, h0⟩ | ⟨g, cap, cur, e1, _⟩
        · omega
        · simp only [Value.slice.injEq, true_and] at e1
          obtain ⟨rfl, rfl⟩ := e1
          exact ⟨g, rfl, ho8.cells (g := g) rfl⟩
      subst hX8
      have HC8 : Hid _ := hc8
      clear ho8 hb8 hc8 H3
      go_wp2_with (first | (at_builtin; refine append_fy rfl (.tmp 35) (.tmp 37) 25 rfl 0 5 i0 _ 1 (mk1 m) Nat.one_pos Tryd.underlying25 hi hz0 hz1 hz2 rfl (.slice la n lc) n 3 [((.slice a1 (n + 1) c1), n + 1), ((.slice a2 (n + 2) c2), n + 2), ((.slice a3 (n + 3) c3), n + 3)] rfl H4.out.fy ⟨X8, 0, none⟩ 70 fc rfl (by decide) HC8.out ?m42 ?m43 ?m44 (Nat.zero_le _) ?_))
      try (case m42 => first | rfl | (intro u hu; simp only [List.mem_cons, List.not_mem_nil, or_false] at hu; subst hu; rfl))
      try (case m43 => unfold maxLen; omega)
      try (case m44 => omega)
      intro v4 we ff
      obtain ⟨f1, f2, f3, a4, c4, rfl⟩ := ff.out
      have H5 : Hid (MS w la n lc m 70 [((.slice a1 (n + 1) c1), n + 1), ((.slice a2 (n + 2) c2), n + 2), ((.slice a3 (n + 3) c3), n + 3), ((.slice a4 (n + 70) c4), n + 70)] we) := H4.out.app f1 f2 f3
      clear ff f1 f2 f3 H4 HC8
      go_wp2
      go_ret
      have HB : Below we.heap.size we (we.alloc (.cells #[.slice la n lc, (.slice a1 (n + 1) c1), (.slice a2 (n + 2) c2), (.slice a3 (n + 3) c3), (.slice a4 (n + 70) c4)] 25)) := (Below.refl _ _).alloc (Nat.le_refl _) _
      have H6 := H5.out.below HB
      refine ⟨we.heap.size, [(.slice la n lc, n), ((.slice a1 (n + 1) c1), n + 1), ((.slice a2 (n + 2) c2), n + 2), ((.slice a3 (n + 3) c3), n + 3), ((.slice a4 (n + 70) c4), n + 70)], rfl, ⟨rfl, ?_, ?_, by simp, ⟨_, heap_alloc_new _ _⟩⟩, H6.ch, ?_⟩
      · intro i r hr
        rw [World.cell?_alloc_at _ _ _ _ rfl]
        match i, hr with
        | 0, hr => simp at hr; subst hr; rfl
        | 1, hr => simp at hr; subst hr; rfl
        | 2, hr => simp at hr; subst hr; rfl
        | 3, hr => simp at hr; subst hr; rfl
        | 4, hr => simp at hr; subst hr; rfl
        | i + 5, hr => simp at hr
      · intro r hr
        rcases List.mem_cons.1 hr with e | e
        · rw [e]; exact ⟨H6.fy.own, by show n ≤ 2097152; omega⟩
        · exact ⟨(H6.fy.mem r e).1, by have := (H6.fy.mem r e).2; omega⟩
      · rintro q (rfl | ⟨r, hr, hq⟩)
        · exact .inr H5.out.ch.size
        · rcases List.mem_cons.1 hr with e | e
          · rw [e] at hq; exact .inl hq
          · exact H6.at' r e q hq
    · have d0 : (k : Int) < (n : Int) := by omega
      obtain ⟨g, hga⟩ : ∃ g, la = some ⟨g, 0, none⟩ := by
        rcases HK.out.1.2 with ⟨_, e2⟩ | ⟨g, cap, cur, e1, _⟩
        · omega
        · simp only [Value.slice.injEq, true_and] at e1
          exact ⟨g, e1.1⟩
      subst hga
      have hkn : k < n := by omega
      have hlen := HK.out.1.1
      obtain ⟨zz, cg⟩ : ∃ z, wr.cell? ⟨g, k, none⟩ = some z := by
        rw [HK.out.1.cellAt k (by omega), List.getElem?_eq_getElem (by omega)]
        exact ⟨_, rfl⟩
      have fg := HK.out.1.frozenAt k
      have HK2 : Hid ((wr.setCell ⟨g, k, none⟩ (.int .u8 (m : Int))).ownsRow 0 5 1 (.slice (some ⟨g, 0, none⟩) n lc) n (rep (k + 1) (mk1 m) ++ xs.drop (k + 1)) ∧ Ch (fun q => (Value.slice (some ⟨g, 0, none⟩) n lc).ownBlock = some q) w (wr.setCell ⟨g, k, none⟩ (.int .u8 (m : Int)))) := ⟨row_fill HK.out.1 HXL.out hkn, HK.out.2.set ⟨g, k, none⟩ _ rfl⟩
      clear hge HK hlen
      go_wp2
      go_roundw
      case rel => exact ⟨k + 1, hkn, by go_num, HK2⟩
      case measure => simp [intOf]; omega
set_option maxHeartbeats 3200000 in
set_option maxRecDepth 100000 in
theorem holds_any (X m : Nat) (F : List (Value × Nat)) (w : World) (h : MG w X m F) :
    Calls Tryd.prog 16 #[.slice (some ⟨X, 0, none⟩) 5 5, .int .u8 (m : Int)] w fun e w' => e = .returned (.bool true) ∧ w = w' := by
  have HG : Hid (MG w X m F) := h
  have hne : ((m : Int) != (m : Int)) = false := by simp
  clear h
  go_enter Tryd.func16, Tryd.ntmps16
  go_wp2
  go_loop [5] (fun ix => ∃ i : Nat, i ≤ 5 ∧ ix = .int .i64 (i : Int)) (fun ix => 5 - (intOf ix).toNat)
  case atStart => exact ⟨0, by omega, rfl⟩
  case round =>
    obtain ⟨i, hi, rfl⟩ := hrel
    by_cases hge : 5 ≤ i
    · have d0 : ¬ (i : Int) < 5 := by omega
      clear hge hne
      go_wp2
      go_ret
      exact ⟨rfl, rfl⟩
    · have d0 : (i : Int) < 5 := by omega
      obtain ⟨r, hr⟩ : ∃ r, F[i]? = some r := ⟨_, List.getElem?_eq_getElem (by rw [HG.out.len]; omega)⟩
      have hc := HG.out.cells i r hr
      obtain ⟨hro, hr2⟩ := HG.out.rows r (List.mem_of_getElem? hr)
      obtain ⟨n, hn⟩ : ∃ n, n = r.2 := ⟨_, rfl⟩
      obtain ⟨a, c, hv⟩ := owns_shape hro
      rw [← hn] at hv hro hr2
      rw [hv] at hc hro
      have HRO : Hid (w.ownsRow 0 5 1 (.slice a n c) n (rep n (mk1 m))) := hro
      clear hge hr hro hn hv
      go_wp2
      go_loop [6] (fun kx => ∃ k : Nat, k ≤ n ∧ kx = .int .i64 (k : Int)) (fun kx => n - (intOf kx).toNat)
      case atStart => exact ⟨0, Nat.zero_le _, rfl⟩
      case round =>
        obtain ⟨k, hk, rfl⟩ := hrel
        by_cases hge : n ≤ k
        · have d1 : ¬ (k : Int) < (n : Int) := by omega
          clear hge hne
          go_wp2
          go_round
          case rel => exact ⟨i + 1, by omega, by go_num⟩
          case measure => simp [intOf]; omega
        · have d1 : (k : Int) < (n : Int) := by omega
          obtain ⟨g, hga⟩ : ∃ g, a = some ⟨g, 0, none⟩ := by
            rcases HRO.out.2 with ⟨_, e2⟩ | ⟨g, cap, cur, e1, _⟩
            · omega
            · simp only [Value.slice.injEq, true_and] at e1
              exact ⟨g, e1.1⟩
          subst hga
          have cg : w.cell? ⟨g, k, none⟩ = some (.int .u8 (m : Int)) := by
            rw [HRO.out.cellAt k (by omega)]
            exact rep_at m n k (by omega)
          clear hge
          go_wp2
          go_round
          case rel => exact ⟨k + 1, by omega, by go_num⟩
          case measure => simp [intOf]; omega
/-- rows that get their marks one after the other: those ahead of i have it -/
structure RW (Z : World) (rv : Nat → Value) (T : Nat) : Prop where
  own : ∀ j, j < T → ∃ n c a xs, rv j = .slice a n c ∧ n ≤ 1048576 ∧ Z.ownsRow 0 5 1 (.slice a n c) n xs
  dis : ∀ j k, j < T → k < T → j ≠ k → ∀ q, (rv j).ownBlock = some q → ¬ (rv k).ownBlock = some q
structure GS (Z : World) (rv : Nat → Value) (M : Nat → Nat) (i : Nat) (X : Nat → Nat) (F : Nat → List (Value × Nat)) (wr : World) : Prop where
  ch : Ch (fun q => ∃ j, j < i ∧ (rv j).ownBlock = some q) Z wr
  mg : ∀ j, j < i → MG wr (X j) (M j) (F j)
  at' : ∀ j, j < i → ∀ q, gB (X j) (F j) q → (rv j).ownBlock = some q ∨ Z.heap.size ≤ q
section
variable {Z : World} {rv : Nat → Value} {M : Nat → Nat} {i T : Nat} {X : Nat → Nat} {F : Nat → List (Value × Nat)} {wr w' : World}
theorem GS.start (Z : World) (rv : Nat → Value) (M : Nat → Nat) (X : Nat → Nat) (F : Nat → List (Value × Nat)) : GS Z rv M 0 X F Z := ⟨Ch.refl _ _, fun j hj => by omega, fun j hj => by omega⟩
theorem GS.below (h : GS Z rv M i X F wr) (b : Below wr.heap.size wr w') : GS Z rv M i X F w' :=
  ⟨h.ch.trans (Ch.ofBelow (S := fun _ => False) b) (fun _ _ q => q.elim), fun j hj => (h.mg j hj).below b, h.at'⟩
theorem GS.row (h : GS Z rv M i X F wr) (r : RW Z rv T) (hi : i < T) : ∃ n c a xs, rv i = .slice a n c ∧ n ≤ 1048576 ∧ wr.ownsRow 0 5 1 (.slice a n c) n xs := by
  obtain ⟨n, c, a, xs, e, hn, ho⟩ := r.own i hi
  refine ⟨n, c, a, xs, e, hn, h.ch.owns ho (fun q hq ⟨j, hj, z⟩ => ?_)⟩
  exact r.dis j i (by omega) hi (by omega) q z (by rw [e]; exact hq)
theorem GS.step (h : GS Z rv M i X F wr) (r : RW Z rv T) (hi : i < T) {X' : Nat} {F' : List (Value × Nat)} (hm : MG w' X' (M i) F') (hc : Ch (fun q => (rv i).ownBlock = some q) wr w') (hg : ∀ q, gB X' F' q → (rv i).ownBlock = some q ∨ wr.heap.size ≤ q) : GS Z rv M (i + 1) (fun j => if j = i then X' else X j) (fun j => if j = i then F' else F j) w' := by
  obtain ⟨n, c, a, xs, e, _, ho⟩ := r.own i hi
  have hlt : ∀ q, (rv i).ownBlock = some q → q < Z.heap.size := fun q hq => (ho.lt q (by rw [← e]; exact hq)).2
  refine ⟨(h.ch.mono (T := fun q => ∃ j, j < i + 1 ∧ (rv j).ownBlock = some q) (fun q _ ⟨j, hj, z⟩ => ⟨j, by omega, z⟩)).trans hc (fun q _ z => ⟨i, by omega, z⟩), fun j hj => ?_, fun j hj q hq => ?_⟩
  · by_cases q : j = i
    · subst q; simp only [if_true]; exact hm
    · simp only [q, if_false]
      refine (h.mg j (by omega)).ch hc (fun x hx z => ?_)
      rcases h.at' j (by omega) x hx with y | y
      · exact r.dis j i (by omega) hi q x y z
      · have := hlt x z; omega
  · by_cases q' : j = i
    · subst q'
      simp only [if_true] at hq
      rcases hg q hq with y | y
      · exact .inl y
      · exact .inr (Nat.le_trans h.ch.size y)
    · simp only [q', if_false] at hq
      exact h.at' j (by omega) q hq
/-- the list of what was handed out is lengthened -/
theorem GS.long {B n : Nat} {lv : Value} {xs : List Value} (h : GS Z rv M i X F wr) (hv : wr.ownsRow B 41 1 lv n xs) (hB : Z.heap.size ≤ B) (hg : wr.grownBy w' lv.ownBlock) : GS Z rv M i X F w' := by
  have c := Ch.ofGrown hg
  refine ⟨h.ch.trans c (fun q hq z => by have := (hv.lt q z).1; omega), fun j hj => (h.mg j hj).ch c (fun q hq z => ?_), h.at'⟩
  obtain ⟨cc, hcc⟩ := kindN hv q z
  rcases hq with rfl | ⟨r, hr, hq⟩
  · obtain ⟨cur, hcur⟩ := (h.mg j hj).kx
    rw [hcc] at hcur
    simp at hcur
  · obtain ⟨cur, hcur⟩ := kindN ((h.mg j hj).rows r hr).1 q hq
    rw [hcc] at hcur
    simp at hcur
end
end F9
end Go.Proofs.YtldallgafpmcjaaDoor
