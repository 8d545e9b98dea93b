/-
  Layer 15: the statements' first: one is asked for, answers, and is known.
-/
import Derived.Test.YtnpipngiehohgaaNgH1
namespace Go.Proofs.Ytnpipngiehohgaa
open Go.RowKit Go.Maps

def k7 : KV := ⟨7, 4, ip4X 200⟩
def m9 : Nat → Nat := fun i => if i = 0 then 2 else if i = 5 then 9 else 0
def fN : EN := ⟨k7, m9, 2, 0, 0, []⟩
theorem k7_wf : k7.Wf := ⟨by decide, by decide, fun i _ => by show ip4X 200 i < 256; unfold ip4X; split; omega; split <;> omega⟩
theorem m9_lt (i : Nat) (_ : i < 6) : m9 i < 256 := by unfold m9; split; omega; split <;> omega
theorem first_1 {c : CF} (hc : CfOk c) {E' : List EV} {m : Nat → Nat} {oc er : Int} (h : WantR c [] k7 5 E' m oc er) : ∃ e : EV, E' = [e] ∧ e.n = ⟨k7, mz, 1, 0, 1, [5]⟩ ∧ m = mz ∧ oc = 3 ∧ er = 0 := by
  rcases h with ⟨h, _⟩ | ⟨_, ⟨_, e, he, ha, rfl, hoc⟩ | ⟨e, hf, _⟩⟩
  · exact absurd h (by decide)
  · have := hc.mx
    rcases ha with ⟨_, rfl, rfl⟩ | ⟨h1, _⟩ | ⟨h1, _⟩
    · exact ⟨e, rfl, he, rfl, by rw [hoc]; rfl, rfl⟩
    · simp at h1; omega
    · simp at h1; omega
  · cases hf
theorem fE_one {e : EV} (h : e.n.k = k7) : fE [e] k7 = some e := by
  unfold fE
  rw [List.find?_cons_of_pos]
  rw [h]
  exact eqP_refl k7
theorem first_2 {c : CF} {e : EV} (he : e.n = ⟨k7, mz, 1, 0, 1, [5]⟩) {E' : List EV} {v : Value} {l : List Int} {er : Int} (h : LearnR c [e] k7 m9 1 E' v l er) : ∃ e' : EV, E' = [e'] ∧ e'.n = fN ∧ l = [5] ∧ er = 0 ∧ e'.lv = .slice none 0 0 := by
  rcases h with ⟨h, _⟩ | ⟨_, ⟨_, h, _⟩ | ⟨hf, _⟩ | ⟨e1, hf, h | ⟨h, _⟩ | ⟨h, _⟩⟩⟩
  · exact absurd h (by decide)
  · exact absurd h (by decide)
  · rw [fE_one (by rw [he])] at hf; cases hf
  · rw [fE_one (by rw [he])] at hf
    cases hf
    obtain ⟨_, rfl, _, rfl, rfl⟩ := h
    refine ⟨⟨{ e.n with m := m9, st := 2, ag := 0, tr := 0, ln := [] }, e.P, .slice none 0 0⟩, ?_, by rw [he]; rfl, by rw [he], rfl, rfl⟩
    unfold updE
    rw [List.map_cons, List.map_nil, if_pos (by rw [he]; exact eqP_refl k7)]
  · exact absurd rfl h
  · exact absurd rfl h
theorem first_3 {c : CF} {e : EV} (he : e.n = fN) {E' : List EV} {m : Nat → Nat} {oc er : Int} (h : WantR c [e] k7 6 E' m oc er) : E' = [e] ∧ m = m9 ∧ oc = 1 ∧ er = 0 := by
  rcases h with ⟨h, _⟩ | ⟨_, ⟨hf, _⟩ | ⟨e1, hf, h⟩⟩
  · exact absurd h (by decide)
  · rw [fE_one (by rw [he]; rfl)] at hf; cases hf
  · rw [fE_one (by rw [he]; rfl)] at hf
    cases hf
    rw [he] at h
    rcases h with ⟨h, _⟩ | ⟨h, _⟩ | ⟨h, _⟩ | ⟨_, _, rfl, rfl, rfl, rfl⟩
    · exact absurd h (by decide)
    · exact absurd h (by decide)
    · exact absurd h (by decide)
    · exact ⟨rfl, rfl, rfl, rfl⟩
theorem run_buildm9 (w : World) : (Instr.build 33 #[(0, .int .u8 2), (1, .int .u8 0), (2, .int .u8 0), (3, .int .u8 0), (4, .int .u8 0), (5, .int .u8 9)]).run Try.prog w = .ok (.agg (macC m9)) w := by kernel_rfl
theorem wpList_build_m9 {ops : Array Oper} {rest : List Oper} {o : Oper} {a : Act} {w : World} {Q : Exit → Act → World → Prop} (ho : o.op = .build 33 #[(0, .const (.int .u8 2)), (1, .const (.int .u8 0)), (2, .const (.int .u8 0)), (3, .const (.int .u8 0)), (4, .const (.int .u8 0)), (5, .const (.int .u8 9))]) (hw : Region.wanted o (yielded ops a.tmps) = true)
    (h : wpList Try.prog ops Q rest (a.put o.dst (.agg (macC m9))) w) : wpList Try.prog ops Q (o :: rest) a w := by
  refine wpList_step fun K hK => ?_
  rw [if_pos hw]
  have hrun : (execOp a.eval o).run Try.prog w = .ok (.value (.agg (macC m9))) w := by
    unfold execOp
    simp only [ho, Sem.run_bind, List.map_toArray, List.map_cons, List.map_nil]
    have := run_buildm9 w
    simp only [show ∀ l, a.eval (.const l) = l from fun _ => rfl, this, Result.andThen_ok]
    rfl
  unfold Oper.wp
  rw [hrun]
  exact hK _ _ h
/-- what a made and filled box leaves -/
theorem boxed_below {S : Nat → Prop} {w w' : World} {o : Obj} (k : Ch S (w.alloc o) w') (hS : ∀ q, S q → w.heap.size ≤ q) : Below w.heap.size w w' := by
  have bz : Below w.heap.size w (w.alloc o) := (Below.refl _ _).alloc (Nat.le_refl _) _
  exact bz.trans (k.below hS bz.size)
theorem ch_then {S : Nat → Prop} {a b d : World} (h : Ch S a b) (k : Below b.heap.size b d) : Ch S a d := h.trans (Ch.ofBelow (S := fun _ => False) k) (fun _ _ h => h.elim)
theorem MacAt.not {A : World} {t M O : Nat} {c : CF} {E : List EV} {m : Nat → Nat} (h : MacAt A O m) (hc : CA A t M c E) : ¬ CB t M E O := cb_apart hc h (by decide) (by decide) (by decide)
theorem IprAt.not {A : World} {t M O : Nat} {c : CF} {E : List EV} {V : Int} {x : Nat → Nat} (h : IprAt A O V x) (hc : CA A t M c E) : ¬ CB t M E O := cb_apart hc h (by decide) (by decide) (by decide)
theorem cb_line {A : World} {t M B : Nat} {c : CF} {E : List EV} {cc : Array Value} (h : CA A t M c E) (hm : A.heap[B]? = some (.cells cc 3 (0, 0))) (hn : ∀ e ∈ E, e.lv.ownBlock ≠ some B) : ¬ CB t M E B := fun hq => by
  rcases hq with rfl | rfl | ⟨e0, he0, rfl | h0⟩
  · have h4 := h.cb; unfold CchAt at h4; rw [hm] at h4; simp only [Option.some.injEq, Obj.cells.injEq] at h4; exact absurd h4.2.1 (by decide)
  · obtain ⟨es, ck, h4⟩ := h.mblk; rw [hm] at h4; cases h4
  · have h4 := h.en e0 he0; unfold EntAt at h4; rw [hm] at h4; simp only [Option.some.injEq, Obj.cells.injEq] at h4; exact absurd h4.2.1 (by decide)
  · exact hn e0 he0 h0
theorem seg_one (w : World) (p : Int) : Seg .i64 (w.alloc (.cells #[.int .i64 p] 3)) (some ⟨w.heap.size, 0, none⟩) [p] := by
  refine .inr ⟨w.heap.size, 0, rfl, fun i hi => ?_⟩
  have hi0 : i = 0 := by simpa using hi
  subst hi0
  have := heap_alloc_new w (.cells #[.int .i64 p] 3)
  show (match (w.alloc (.cells #[.int .i64 p] 3)).heap[w.heap.size]? with
    | some (.cells c _ _) => c[0]?
    | _ => none) = _
  rw [this]
  rfl
set_option maxHeartbeats 6400000 in
set_option maxRecDepth 100000 in
theorem first_any2 {W : World} {t M : Nat} {c : CF} {w : World} (h : LSt W t M c [] w) : Calls Try.prog 14 #[.pointer (some ⟨t, 0, none⟩)] w fun r w' => r = .returned (.bool true) ∧ ∃ e : EV, e.n = fN ∧ LSt W t M c [e] w' ∧ Ch (CB t M []) w w' ∧ (∀ q, CB t M [e] q → CB t M [] q ∨ w.heap.size ≤ q) := by
  have HC : Hid (LSt W t M c [] w) := h
  have QI : Hid (Calls Try.prog 45 #[.int .u8 200] w _) := ip_any 200 w
  clear h
  go_enter Try.func14, Try.ntmps14
  go_wp2_with fail
  refine Calls.mono QI.out ?_
  rintro r w1 ⟨rfl, b1⟩
  have H1 : Hid (LSt W t M c [] w1 ∧ Below w.heap.size w w1) := ⟨HC.out.below b1, b1⟩
  clear QI b1 HC
  go_wp2_with (first | (refine wpList_alloc_ipr rfl rfl ?_) | (refine wpList_store_ipr (.tmp 3) (.tmp 13) rfl rfl w1.heap.size 0 (fun _ => 0) 4 (ip4X 200) rfl rfl (ipr_new w1 0 (fun _ => 0)) rfl ?_))
  intro w2 h2 k2
  have b2 : Below w1.heap.size w1 w2 := boxed_below k2 (fun q e => by have e' : q = w1.heap.size := e; omega)
  obtain ⟨O3, hO3⟩ : ∃ O, O = w1.heap.size := ⟨_, rfl⟩
  rw [← hO3] at h2 ⊢
  have H2 : Hid (LSt W t M c [] w2 ∧ Below w.heap.size w w2 ∧ IprAt w2 O3 4 (ip4X 200)) := ⟨H1.out.1.below b2, bthen H1.out.2 b2, h2⟩
  clear h2 k2 b2 hO3 H1
  go_wp2_with (first | (refine wpList_build_m9 rfl rfl ?_) | (refine wpList_alloc_mac rfl rfl ?_) | (refine wpList_store_mac (.tmp 4) (.tmp 14) rfl rfl w2.heap.size mz m9 rfl rfl (mac_new w2 mz) rfl ?_))
  intro w3 h3 k3
  have b3 : Below w2.heap.size w2 w3 := boxed_below k3 (fun q e => by have e' : q = w2.heap.size := e; omega)
  obtain ⟨O4, hO4⟩ : ∃ O, O = w2.heap.size := ⟨_, rfl⟩
  rw [← hO4] at h3 ⊢
  have H3 : Hid (LSt W t M c [] w3 ∧ Below w.heap.size w w3 ∧ IprAt w3 O3 4 (ip4X 200) ∧ MacAt w3 O4 m9) := ⟨H2.out.1.below b3, bthen H2.out.2.1 b3, H2.out.2.2.below b3, h3⟩
  clear h3 k3 b3 hO4 H2
  have QW : Hid (Calls Try.prog 15 #[.pointer (some ⟨t, 0, none⟩), .int .i64 7, .agg (ipCells 4 (ip4X 200)), .int .i64 5] w3 _) := H3.out.1.want k7 k7_wf 5
  go_wp2_with (first | (refine wpList_load_ipr (.tmp 3) rfl O3 4 (ip4X 200) rfl H3.out.2.2.1 rfl ?_))
  refine Calls.mono QW.out ?_
  rintro r w4 ⟨m, oc, er, E1, rfl, hR, hL, hch, hq, _⟩
  obtain ⟨e1, rfl, he1, rfl, rfl, rfl⟩ := first_1 H3.out.1.cf hR
  have H4 : Hid (LSt W t M c [e1] w4 ∧ Ch (CB t M []) w w4 ∧ IprAt w4 O3 4 (ip4X 200) ∧ MacAt w4 O4 m9) := ⟨hL, (Ch.ofBelow H3.out.2.1).trans hch (fun _ _ h => h), H3.out.2.2.1.ch hch (H3.out.2.2.1.not H3.out.1.ca), H3.out.2.2.2.ch hch (H3.out.2.2.2.not H3.out.1.ca)⟩
  have HQ1 : Hid (e1.n = ⟨k7, mz, 1, 0, 1, [5]⟩ ∧ ∀ q, CB t M [e1] q → CB t M [] q ∨ w.heap.size ≤ q) := ⟨he1, fun q hh => (hq q hh).imp id (fun g => Nat.le_trans H3.out.2.1.size g)⟩
  clear hR hL hch hq he1 QW H3
  go_wp2_with (first | (refine wpList_alloc_mac rfl rfl ?_) | (refine wpList_store_mac (.tmp 5) (.tmp 19) rfl rfl w4.heap.size mz mz rfl rfl (mac_new w4 mz) rfl ?_))
  intro w5 h5 k5
  have b5 : Below w4.heap.size w4 w5 := boxed_below k5 (fun q e => by have e' : q = w4.heap.size := e; omega)
  have H5 : Hid (LSt W t M c [e1] w5 ∧ Ch (CB t M []) w w5 ∧ IprAt w5 O3 4 (ip4X 200) ∧ MacAt w5 O4 m9) := ⟨H4.out.1.below b5, ch_then H4.out.2.1 b5, H4.out.2.2.1.below b5, H4.out.2.2.2.below b5⟩
  obtain ⟨O5, hO5⟩ : ∃ O, O = w4.heap.size := ⟨_, rfl⟩
  rw [← hO5]
  clear h5 k5 b5 H4 hO5
  have QL : Hid (Calls Try.prog 16 #[.pointer (some ⟨t, 0, none⟩), .int .i64 7, .agg (ipCells 4 (ip4X 200)), .agg (macC m9), .int .i64 1] w5 _) := H5.out.1.learn k7 k7_wf m9 m9_lt 1
  go_wp2_with (first | (refine wpList_load_ipr (.tmp 3) rfl O3 4 (ip4X 200) rfl H5.out.2.2.1 rfl ?_) | (refine wpList_load_mac (.tmp 4) rfl O4 m9 rfl H5.out.2.2.2 rfl ?_))
  refine Calls.mono QL.out ?_
  rintro r w6 ⟨lv, l, er, E2, rfl, hR, hL, hch, hln, hq, _⟩
  obtain ⟨e2, rfl, he2, rfl, rfl, hlv2⟩ := first_2 HQ1.out.1 hR
  obtain ⟨la, lc, rfl⟩ := hln.form
  have H6 : Hid (LSt W t M c [e2] w6 ∧ Ch (CB t M []) w w6 ∧ IprAt w6 O3 4 (ip4X 200) ∧ MacAt w6 O4 m9) := ⟨hL, H5.out.2.1.trans hch (fun q hq2 hh => (HQ1.out.2 q hh).elim id (fun g => by omega)), H5.out.2.2.1.ch hch (H5.out.2.2.1.not H5.out.1.ca), H5.out.2.2.2.ch hch (H5.out.2.2.2.not H5.out.1.ca)⟩
  have HQ2 : Hid (e2.n = fN ∧ (∀ q, CB t M [e2] q → CB t M [] q ∨ w.heap.size ≤ q) ∧ LnAt w6 (.slice la 1 lc) [5] ∧ e2.lv = .slice none 0 0) := ⟨he2, fun q hh => (hq q hh).elim (HQ1.out.2 q) (fun g => .inr (Nat.le_trans H5.out.2.1.size g)), hln, hlv2⟩
  clear hR hL hch hq he2 QL H5 HQ1 hln hlv2
  have QW : Hid (Calls Try.prog 15 #[.pointer (some ⟨t, 0, none⟩), .int .i64 7, .agg (ipCells 4 (ip4X 200)), .int .i64 6] w6 _) := H6.out.1.want k7 k7_wf 6
  go_wp2_with (first | (refine wpList_load_ipr (.tmp 3) rfl O3 4 (ip4X 200) rfl H6.out.2.2.1 rfl ?_))
  refine Calls.mono QW.out ?_
  rintro r w7 ⟨m, oc, er, E3, rfl, hR, hL, hch, hq, _⟩
  obtain ⟨rfl, rfl, rfl, rfl⟩ := first_3 HQ2.out.1 hR
  have hln7 : LnAt w7 (.slice la 1 lc) [5] := hch.owns HQ2.out.2.2.1 (fun g hg hcb => by
    obtain ⟨cc, hcc⟩ := LnAt.kind HQ2.out.2.2.1 g hg
    exact cb_line H6.out.1.ca hcc (fun e he => by simp only [List.mem_singleton] at he; rw [he, HQ2.out.2.2.2]; intro hh; cases hh) hcb)
  have H7 : Hid (LSt W t M c [e2] w7 ∧ Ch (CB t M []) w w7 ∧ MacAt w7 O4 m9 ∧ LnAt w7 (.slice la 1 lc) [5]) := ⟨hL, H6.out.2.1.trans hch (fun q hq2 hh => (HQ2.out.2.1 q hh).elim id (fun g => by omega)), H6.out.2.2.2.ch hch (H6.out.2.2.2.not H6.out.1.ca), hln7⟩
  clear hR hL hch hq QW H6 hln7
  go_wp2_with (first | (refine wpList_alloc_mac rfl rfl ?_) | (refine wpList_store_mac (.tmp 10) (.tmp 33) rfl rfl w7.heap.size mz m9 rfl rfl (mac_new w7 mz) rfl ?_))
  intro w8 h8 k8
  have b8 : Below w7.heap.size w7 w8 := boxed_below k8 (fun q e => by have e' : q = w7.heap.size := e; omega)
  obtain ⟨O10, hO10⟩ : ∃ O, O = w7.heap.size := ⟨_, rfl⟩
  rw [← hO10] at h8 ⊢
  have H8 : Hid (LSt W t M c [e2] w8 ∧ Ch (CB t M []) w w8 ∧ MacAt w8 O4 m9 ∧ LnAt w8 (.slice la 1 lc) [5] ∧ MacAt w8 O10 m9) := ⟨H7.out.1.below b8, ch_then H7.out.2.1 b8, H7.out.2.2.1.below b8, (Ch.ofBelow (S := fun _ => False) b8).owns H7.out.2.2.2 (fun _ _ => id), h8⟩
  clear h8 k8 b8 hO10 H7
  go_wp2_with fail
  refine Calls.mono (num_any 0 w8) ?_
  rintro r x ⟨rfl, rfl⟩
  go_wp2_with fail
  refine Calls.mono (num_any 0 w8) ?_
  rintro r x ⟨rfl, rfl⟩
  have QS : Hid (Calls Try.prog 28 #[.slice la 1 lc, .slice (some ⟨w8.heap.size, 0, none⟩) 1 1] (w8.alloc (.cells #[.int .i64 5] 3)) _) := sameInts_any la (some ⟨w8.heap.size, 0, none⟩) lc 1 [5] [5] (w8.alloc (.cells #[.int .i64 5] 3)) (LnAt.seg ((Ch.ofBelow (S := fun _ => False) ((Below.refl _ _).alloc (Nat.le_refl _) _)).owns H8.out.2.2.2.1 (fun _ _ => id))) (seg_one w8 5) (by decide)
  go_wp2_with (first | (refine wpList_bs1i (.const (.int .i64 5)) rfl 5 rfl rfl ?_))
  refine Calls.mono QS.out ?_
  rintro r w9 ⟨rfl, b9⟩
  have b9' : Below w8.heap.size w8 w9 := ((Below.refl w8.heap.size w8).alloc (Nat.le_refl _) _).trans (b9.mono (by simp))
  have H9 : Hid (LSt W t M c [e2] w9 ∧ Ch (CB t M []) w w9 ∧ MacAt w9 O4 m9 ∧ MacAt w9 O10 m9) := ⟨H8.out.1.below b9', ch_then H8.out.2.1 b9', H8.out.2.2.1.below b9', H8.out.2.2.2.2.below b9'⟩
  clear b9 b9' QS H8
  simp only [decide_true]
  go_wp2_with (first | (refine wpList_load_mac (.tmp 10) rfl O10 m9 rfl H9.out.2.2.2 rfl ?_) | (refine wpList_load_mac (.tmp 4) rfl O4 m9 rfl H9.out.2.2.1 rfl ?_) | (refine wpList_eql_mac (.tmp 54) (.tmp 55) rfl m9 m9 rfl rfl true (same6_self m9) rfl ?_))
  refine Calls.mono (num_any 0 w9) ?_
  rintro r x ⟨rfl, rfl⟩
  go_wp2_with fail
  go_ret
  exact ⟨rfl, e2, HQ2.out.1, H9.out.1, H9.out.2.1, HQ2.out.2.1⟩
theorem first_any {W : World} {t M : Nat} {c : CF} {w : World} (h : LSt W t M c [] w) : Calls Try.prog 14 #[.pointer (some ⟨t, 0, none⟩)] w fun r w' => r = .returned (.bool true) ∧ ∃ e : EV, e.n = fN ∧ LSt W t M c [e] w' ∧ Ch (CB t M []) w w' := by
  refine (first_any2 h).mono ?_
  rintro r w' ⟨rfl, e, h1, h2, h3, _⟩
  exact ⟨rfl, e, h1, h2, h3⟩
end Go.Proofs.Ytnpipngiehohgaa
