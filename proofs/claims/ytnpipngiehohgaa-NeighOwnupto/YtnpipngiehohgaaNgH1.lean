/-
  Layer 15: a cache under way; the statements' cache.
-/
import Derived.Test.YtnpipngiehohgaaNgH0
namespace Go.Proofs.Ytnpipngiehohgaa
open Go.RowKit Go.Maps

/-- a block of another kind is none of a cache's -/
theorem cb_apart {A : World} {t M B : Nat} {c : CF} {E : List EV} {cc : Array Value} {ty : TypeId} (h : CA A t M c E) (hm : A.heap[B]? = some (.cells cc ty (0, 0))) (h1 : ty ≠ 102) (h2 : ty ≠ 105) (h3 : ty ≠ 3) : ¬ CB t M E B := fun hq => by
  rcases hq with rfl | rfl | ⟨e0, he0, rfl | h0⟩
  · have h4 := h.cb; unfold CchAt at h4; rw [hm] at h4; simp only [Option.some.injEq, Obj.cells.injEq] at h4; exact h1 h4.2.1
  · obtain ⟨es, ck, h4⟩ := h.mblk; rw [hm] at h4; cases h4
  · have h4 := h.en e0 he0; unfold EntAt at h4; rw [hm] at h4; simp only [Option.some.injEq, Obj.cells.injEq] at h4; exact h2 h4.2.1
  · obtain ⟨cc', h4⟩ := (h.li e0 he0).kind B h0; rw [hm] at h4; simp only [Option.some.injEq, Obj.cells.injEq] at h4; exact h3 h4.2.1
theorem CfgAt.all {w : World} {O : Nat} {c : CF} (h : CfgAt w O c) : w.rangeAt O 0 (cfC c).toList := by
  have e := CfgAt.range h 0 (cfC c).size
  rwa [Nat.zero_add, Array.extract_size] at e
/-- a cache under way: all of it made behind W -/
structure LSt (W : World) (t M : Nat) (c : CF) (E : List EV) (w : World) : Prop where
  ca : CA w t M c E
  cf : CfOk c
  ok : EOk c E
  bel : Below W.heap.size W w
  out : ∀ q, CB t M E q → W.heap.size ≤ q
section
variable {W : World} {t M : Nat} {c : CF} {E : List EV} {w : World}
theorem LSt.below {w' : World} (h : LSt W t M c E w) (b : Below w.heap.size w w') : LSt W t M c E w' := ⟨h.ca.below b, h.cf, h.ok, h.bel.trans (b.mono h.bel.size), h.out⟩
theorem LSt.ch {w' : World} {S : Nat → Prop} (h : LSt W t M c E w) (k : Ch S w w') (hS : ∀ q, CB t M E q → ¬ S q) (hW : ∀ q, S q → W.heap.size ≤ q) : LSt W t M c E w' := ⟨h.ca.ch k hS, h.cf, h.ok, h.bel.trans (k.below hW h.bel.size), h.out⟩
theorem LSt.then {w' : World} {E' : List EV} (h : LSt W t M c E w) (hca : CA w' t M c E') (hok : EOk c E') (k : Ch (CB t M E) w w') (hq : ∀ q, CB t M E' q → CB t M E q ∨ w.heap.size ≤ q) : LSt W t M c E' w' :=
  ⟨hca, h.cf, hok, h.bel.trans (k.below h.out h.bel.size), fun q hh => (hq q hh).elim (h.out q) (fun g => Nat.le_trans h.bel.size g)⟩
theorem LSt.want (h : LSt W t M c E w) (k : KV) (hk : k.Wf) (item : Int) :
    Calls Try.prog 15 #[.pointer (some ⟨t, 0, none⟩), .int .i64 k.pt, .agg (ipCells k.V k.x), .int .i64 item] w fun r w' => ∃ m oc er E', r = .returned (.tuple #[.agg (macC m), .int .i64 oc, .int .i64 er]) ∧ WantR c E k item E' m oc er ∧ LSt W t M c E' w' ∧ Ch (CB t M E) w w' ∧ (∀ q, CB t M E' q → CB t M E q ∨ w.heap.size ≤ q) ∧ (er ≠ 0 → E' = E) := by
  refine (want_any t M c E k item w h.ca (h.ok.len h.cf) (fun e he => (h.ok.2 e he).a0) (h.ok.lns h.cf) hk).mono ?_
  rintro r w' ⟨m, oc, er, E', rfl, hR, hca, hch, hq⟩
  obtain ⟨h1, h2⟩ := WantR.ok h.cf h.ca.dj h.ok hR
  exact ⟨m, oc, er, E', rfl, hR, h.then hca h1 hch hq, hch, hq, h2⟩
theorem LSt.learn (h : LSt W t M c E w) (k : KV) (hk : k.Wf) (mc : Nat → Nat) (hm : ∀ i, i < 6 → mc i < 256) (how : Int) :
    Calls Try.prog 16 #[.pointer (some ⟨t, 0, none⟩), .int .i64 k.pt, .agg (ipCells k.V k.x), .agg (macC mc), .int .i64 how] w fun r w' => ∃ v l er E', r = .returned (.tuple #[v, .int .i64 er]) ∧ LearnR c E k mc how E' v l er ∧ LSt W t M c E' w' ∧ Ch (CB t M E) w w' ∧ LnAt w' v l ∧ (∀ q, CB t M E' q → CB t M E q ∨ w.heap.size ≤ q) ∧ (er ≠ 0 → E' = E) := by
  refine (learn_any t M c E k mc how w h.ca (h.ok.len h.cf) (fun e he => (h.ok.2 e he).a0) hk hm).mono ?_
  rintro r w' ⟨v, l, er, E', rfl, hR, hca, hch, hl, hq⟩
  obtain ⟨h1, h2⟩ := LearnR.ok h.cf h.ca.dj h.ok hR
  exact ⟨v, l, er, E', rfl, hR, h.then hca h1 hch hq, hch, hl, hq, h2⟩
theorem tickE_pl {c : CF} {e y : EV} (h : tickE c e = some y) : y.P = e.P ∧ y.lv = e.lv := by
  unfold tickE at h
  split at h
  · unfold tkE at h
    split at h
    · cases h; exact ⟨rfl, rfl⟩
    · cases h
  · cases h; exact ⟨rfl, rfl⟩
theorem tick_cb {t M : Nat} {c : CF} {E : List EV} : ∀ q, CB t M (E.filterMap (tickE c)) q → CB t M E q := by
  rintro q (h | h | ⟨y, hy, h⟩)
  · exact .inl h
  · exact .inr (.inl h)
  · obtain ⟨e, he, hey⟩ := List.mem_filterMap.1 hy
    obtain ⟨h1, h2⟩ := tickE_pl hey
    rw [h1, h2] at h
    exact .inr (.inr ⟨e, he, h⟩)
theorem LSt.tick (h : LSt W t M c E w) :
    Calls Try.prog 17 #[.pointer (some ⟨t, 0, none⟩)] w fun r w' => ∃ av lv Kd, r = .returned (.tuple #[av, lv]) ∧ Kd.Perm (dueL c E) ∧ Kd.Pairwise (fun a b => 0 ≤ ordV b a) ∧ AL w' w.heap.size av (asksL c (E.map (ag1 c)) Kd) ∧ IL w' w.heap.size lv (lostL c (E.map (ag1 c)) Kd) ∧ LSt W t M c (E.filterMap (tickE c)) w' ∧ Ch (CB t M E) w w' := by
  refine (tick_any t M c E w h.ca (h.ok.len h.cf) (fun e he => (h.ok.2 e he).age h.cf) (h.ok.lns h.cf) (fun e he => (h.ok.2 e he).tr) (by have := h.cf.tr; omega)).mono ?_
  rintro r w' ⟨av, lv, Kd, rfl, hp, hs, ha, hl, hca, hch⟩
  exact ⟨av, lv, Kd, rfl, hp, hs, ha, hl, h.then hca (tick_ok h.cf h.ok) hch (fun q hq => .inl (tick_cb q hq)), hch⟩
theorem LSt.all (h : LSt W t M c E w) : Calls Try.prog 18 #[.pointer (some ⟨t, 0, none⟩)] w fun r w' => ∃ v S, r = .returned v ∧ Srt E S ∧ NL w' w.heap.size v (S.map (fun e => e.n.nb)) ∧ LSt W t M c E w' ∧ Below w.heap.size w w' := by
  refine (all_any t M c E w h.ca (h.ok.len h.cf)).mono ?_
  rintro r w' ⟨v, rfl, S, hS, hN, b⟩
  exact ⟨v, S, rfl, hS, hN, h.below b, b⟩
theorem LSt.waiting (h : LSt W t M c E w) : Calls Try.prog 20 #[.pointer (some ⟨t, 0, none⟩)] w fun r w' => r = .returned (.int .i64 (waitN E : Nat)) ∧ LSt W t M c E w' ∧ Below w.heap.size w w' := by
  refine (waiting_any t M c E w h.ca (h.ok.len h.cf) (h.ok.lns h.cf)).mono ?_
  rintro r w' ⟨rfl, b⟩
  exact ⟨rfl, h.below b, b⟩
theorem LSt.get (h : LSt W t M c E w) (k : KV) (hk : k.Wf) : Calls Try.prog 22 #[.pointer (some ⟨t, 0, none⟩), .int .i64 k.pt, .agg (ipCells k.V k.x)] w fun r w' => r = .returned (.tuple #[.agg (nbC (gtN E k)), .bool (fE E k).isSome]) ∧ LSt W t M c E w' ∧ Below w.heap.size w w' := by
  refine (get_any t M c E k hk w h.ca).mono ?_
  rintro r w' ⟨rfl, b⟩
  exact ⟨rfl, h.below b, b⟩
end
theorem results_tmp_cfg {fn : Func} {p u : Tmp} (h : fn.results = #[.tmp u, .cell p 23]) (tmps : Array Value) (w : World) (O : Nat) (v : CF) (hp : tmps.getD p undef = .pointer (some ⟨O, 0, none⟩)) (hb : CfgAt w O v) :
    (results fn tmps).run Try.prog w = .ok (.tuple #[tmps.getD u undef, .agg (cfC v)]) w := by
  have hp' : tmps[p]?.getD undef = .pointer (some ⟨O, 0, none⟩) := by simpa using hp
  simp [results, h, hp', asAddr, run_loadVar_row w O _ 23 (cfC v) _ _ hb Try.underlying23 rfl Try.size_cfg]
def d3 : CF := ⟨3, 2, 2, 2, 3⟩
def cfR (c : CF) : CF := if cfB c then c else d3
theorem cfR_ok (c : CF) : CfOk (cfR c) := by
  unfold cfR
  split
  · rename_i h; exact cfB_ok h
  · exact cfB_ok (by decide)
theorem eok_nil {c : CF} (h : CfOk c) : EOk c [] := ⟨by have := h.mx; simp; omega, fun e he => by cases he⟩
theorem run_buildcfg (w : World) : (Instr.build 23 #[(0, .int .i64 3), (1, .int .i64 2), (2, .int .i64 2), (3, .int .i64 2), (4, .int .i64 3)]).run Try.prog w = .ok (.agg (cfC d3)) w := by kernel_rfl
theorem wpList_build_d3 {ops : Array Oper} {rest : List Oper} {o : Oper} {a : Act} {w : World} {Q : Exit → Act → World → Prop} (ho : o.op = .build 23 #[(0, .const (.int .i64 3)), (1, .const (.int .i64 2)), (2, .const (.int .i64 2)), (3, .const (.int .i64 2)), (4, .const (.int .i64 3))]) (hw : Region.wanted o (yielded ops a.tmps) = true)
    (h : wpList Try.prog ops Q rest (a.put o.dst (.agg (cfC d3))) w) : wpList Try.prog ops Q (o :: rest) a w := by
  refine wpList_step fun K hK => ?_
  rw [if_pos hw]
  have hrun : (execOp a.eval o).run Try.prog w = .ok (.value (.agg (cfC d3))) w := by
    unfold execOp
    simp only [ho, Sem.run_bind, List.map_toArray, List.map_cons, List.map_nil]
    have := run_buildcfg w
    simp only [show ∀ l, a.eval (.const l) = l from fun _ => rfl, this, Result.andThen_ok]
    rfl
  unfold Oper.wp
  rw [hrun]
  exact hK _ _ h
set_option maxHeartbeats 3200000 in
set_option maxRecDepth 100000 in
theorem cache_any (c : CF) (w : World) : Calls Try.prog 13 #[.agg (cfC c)] w fun e w' => ∃ t M, e = .returned (.tuple #[.pointer (some ⟨t, 0, none⟩), .agg (cfC (cfR c))]) ∧ LSt w t M (cfR c) [] w' := by
  have hb := cfg_new w c
  have bel : Below w.heap.size w (w.alloc (.cells (cfC c) 23)) := (Below.refl _ _).alloc (Nat.le_refl _) _
  obtain ⟨CX, hC⟩ : ∃ C, C = cfC c := ⟨_, rfl⟩
  obtain ⟨W, hW⟩ : ∃ W, W = w.alloc (.cells (cfC c) 23) := ⟨_, rfl⟩
  rw [← hW] at hb bel
  obtain ⟨B, hB⟩ : ∃ B, B = w.heap.size := ⟨_, rfl⟩
  rw [← hB] at hb
  have HBX : Hid (CfgAt W B c) := hb
  rw [← hC] at hW ⊢
  have HOX : Hid (w.heap.size = B) := hB.symm
  have HLX : Hid (Below w.heap.size w W) := bel
  have HWX : Hid (w.alloc (.cells CX 23) = W) := hW.symm
  clear hb hW hB hC bel
  have HSZ : Hid (W.heap.size = B + 1) := by show _ = _; rw [← HWX.out, World.size_alloc, HOX.out]
  obtain ⟨Y, hY⟩ : ∃ Y, Y = W.alloc (.cells (cfC cz) 23) := ⟨_, rfl⟩
  have bY : Below W.heap.size W Y := by rw [hY]; exact (Below.refl _ _).alloc (Nat.le_refl _) _
  have HY : Hid (CfgAt Y B c ∧ CfgAt Y (B + 1) cz ∧ Below w.heap.size w Y) := ⟨HBX.out.below bY, by rw [hY, ← HSZ.out]; exact cfg_new W cz, bthen HLX.out bY⟩
  have HYE : Hid (W.alloc (.cells (cfC cz) 23) = Y) := hY.symm
  clear hY bY
  have QN : Hid _ := new_any c Y
  have QD : Hid (∀ x, Calls Try.prog 44 #[.agg (cfC d3)] x _) := fun x => new_any d3 x
  go_enter Try.func13, Try.ntmps13
  go_upto_region 1 with (first | (rw [HOX.out, HWX.out]; refine wpList_alloc_cfg rfl rfl ?_; rw [HSZ.out, HYE.out]; simp only [Act.put, List.setIfInBounds_toArray, List.set_cons_succ, List.set_cons_zero]))
  go_wp2_with (first | (refine wpList_load_cfg (.tmp 1) rfl B c rfl HY.out.1 rfl ?_))
  refine Calls.mono QN.out ?_
  rintro e w1 ⟨b1, ⟨hcb, t, M, rfl, hca, ht, hM⟩ | ⟨hcb, rfl⟩⟩
  · have H1 : Hid (CfgAt w1 B c ∧ CfgAt w1 (B + 1) cz ∧ CA w1 t M c [] ∧ Below w.heap.size w w1) := ⟨HY.out.1.below b1, HY.out.2.1.below b1, hca, bthen HY.out.2.2 b1⟩
    have HT : Hid (w.heap.size ≤ t ∧ w.heap.size ≤ M ∧ cfR c = c) := by have := HY.out.2.2.size; exact ⟨by omega, by omega, by unfold cfR; rw [if_pos hcb]⟩
    clear b1 hcb hca ht hM QN HBX HLX HWX HSZ HY HYE QD
    go_wp2_with fail
    refine Calls.mono (num_any 0 w1) ?_
    rintro e x ⟨rfl, rfl⟩
    go_wp2_with fail
    refine Calls.mono (num_any 0 w1) ?_
    rintro e x ⟨rfl, rfl⟩
    go_upto_region 7 with fail
    refine MixH.start (fun A => CfgAt A B (c)) (by kernel_rfl) ?_
    obtain ⟨wA, hwA⟩ : ∃ wA, wA = w1.drew := ⟨_, rfl⟩
    have bdr : Below w1.heap.size w1 wA := by rw [hwA]; exact (Below.refl _ _).drew
    have HSS : Hid (CfgAt wA B (c) ∧ CfgAt wA (B + 1) cz ∧ CA wA t M (c) [] ∧ Below w.heap.size w wA) := ⟨H1.out.1.below bdr, H1.out.2.1.below bdr, H1.out.2.2.1.below bdr, bthen H1.out.2.2.2 bdr⟩
    have hS : CfgAt wA B (c) := HSS.out.1
    rw [← hwA]
    clear hwA bdr H1
    refine MixH.takes [true] 3 (by kernel_rfl) (by kernel_rfl) (by decide) (by kernel_rfl) hS (fun K hK => ?_)
    simp only [Mix.pick]
    repeat (go_big_quiet_step (fail))
    refine wpQuiet_nil (hK _ ?_)
    clear hK K
    refine MixH.take 2 1 _ (.agg (cfC (c))) rfl (by kernel_rfl) (by kernel_rfl) (by kernel_rfl) (by kernel_rfl) (yields_cfg (.tmp 1) rfl B 0 (c) rfl rfl (fun A hA => CfgAt.all hA)) hS (fun a' ha => ?_)
    simp only [Act.put, List.setIfInBounds_toArray, List.set_cons_succ, List.set_cons_zero] at ha
    subst ha
    refine MixH.takes [false, false, true] 1 (by kernel_rfl) (by kernel_rfl) (by decide) (by kernel_rfl) hS (fun K hK => ?_)
    simp only [Mix.pick]
    repeat (go_big_quiet_step (fail))
    refine wpQuiet_nil (hK _ ?_)
    clear hK K
    refine MixH.one [false, false, false, true] 0 3 _ rfl rfl (by kernel_rfl) (by kernel_rfl) (fun K hK => ?_)
    simp only [Mix.pick]
    clear hS
    refine wpList_store_cfg (.tmp 3) (.tmp 25) rfl rfl (B + 1) cz (c) rfl rfl HSS.out.2.1 rfl ?_
    intro wE hE kE
    have HE : Hid (CfgAt wE (B + 1) (c) ∧ CA wE t M (c) [] ∧ Below w.heap.size w wE) := by
      have hn : ∀ q, CB t M [] q → ¬ (q = B + 1) := fun q hq e => cb_apart HSS.out.2.2.1 HSS.out.2.1 (by decide) (by decide) (by decide) (by rw [← e]; exact hq)
      exact ⟨hE, HSS.out.2.2.1.ch kE hn, HSS.out.2.2.2.trans (kE.below (fun q e => by have e' : q = B + 1 := e; have := HOX.out; omega) HSS.out.2.2.2.size)⟩
    have hS' : CfgAt wE B (c) := HSS.out.1.ch kE (by omega)
    clear hE kE HSS
    go_wp2
    refine ⟨rfl, hK _ _ ?_ ?_⟩
    · exact hS'
    · clear hK K
      refine MixH.done (by kernel_rfl) ?_
      clear hS'
      go_wp2
      refine bodyPost_ret (results_tmp_cfg rfl _ _ (B + 1) _ rfl HE.out.1) rfl ?_
      rw [HT.out.2.2]
      exact ⟨t, M, rfl, HE.out.2.1, by have := cfR_ok c; rwa [HT.out.2.2] at this, eok_nil (by have := cfR_ok c; rwa [HT.out.2.2] at this), HE.out.2.2, fun q hq => by rcases hq with rfl | rfl | ⟨e0, he0, _⟩; exact HT.out.1; exact HT.out.2.1; cases he0⟩
  · have H1 : Hid (CfgAt w1 B c ∧ CfgAt w1 (B + 1) cz ∧ Below w.heap.size w w1) := ⟨HY.out.1.below b1, HY.out.2.1.below b1, bthen HY.out.2.2 b1⟩
    have HR : Hid (cfR c = d3) := by show _ = _; unfold cfR; rw [if_neg (by rw [hcb]; decide)]
    clear b1 hcb QN HBX HLX HWX HSZ HY HYE
    go_wp2_with fail
    refine Calls.mono (num_any 150 w1) ?_
    rintro e x ⟨rfl, rfl⟩
    go_wp2_with (first | (refine wpList_build_d3 rfl rfl ?_) | (refine wpList_store_cfg (.tmp 1) (.tmp 14) rfl rfl B c d3 rfl rfl H1.out.1 rfl ?_))
    intro w2 h2 k2
    have H2 : Hid (CfgAt w2 B d3 ∧ CfgAt w2 (B + 1) cz ∧ Below w.heap.size w w2) := ⟨h2, H1.out.2.1.ch k2 (by omega), H1.out.2.2.trans (k2.below (fun q e => by have e' : q = B := e; have := HOX.out; omega) H1.out.2.2.size)⟩
    clear h2 k2 H1
    go_wp2_with (first | (refine wpList_load_cfg (.tmp 1) rfl B d3 rfl H2.out.1 rfl ?_))
    refine Calls.mono (QD.out w2) ?_
    rintro e w3 ⟨b3, ⟨_, t, M, rfl, hca, ht, hM⟩ | ⟨hcb, rfl⟩⟩
    rotate_left
    · exact absurd hcb (by decide)
    have H3 : Hid (CfgAt w3 B d3 ∧ CfgAt w3 (B + 1) cz ∧ CA w3 t M d3 [] ∧ Below w.heap.size w w3) := ⟨H2.out.1.below b3, H2.out.2.1.below b3, hca, bthen H2.out.2.2 b3⟩
    have HT : Hid (w.heap.size ≤ t ∧ w.heap.size ≤ M) := by have := H2.out.2.2.size; exact ⟨by omega, by omega⟩
    clear b3 hca ht hM QD H2
    go_wp2_with fail
    refine Calls.mono (num_any 0 w3) ?_
    rintro e x ⟨rfl, rfl⟩
    go_upto_region 7 with fail
    refine MixH.start (fun A => CfgAt A B (d3)) (by kernel_rfl) ?_
    obtain ⟨wA, hwA⟩ : ∃ wA, wA = w3.drew := ⟨_, rfl⟩
    have bdr : Below w3.heap.size w3 wA := by rw [hwA]; exact (Below.refl _ _).drew
    have HSS : Hid (CfgAt wA B (d3) ∧ CfgAt wA (B + 1) cz ∧ CA wA t M (d3) [] ∧ Below w.heap.size w wA) := ⟨H3.out.1.below bdr, H3.out.2.1.below bdr, H3.out.2.2.1.below bdr, bthen H3.out.2.2.2 bdr⟩
    have hS : CfgAt wA B (d3) := HSS.out.1
    rw [← hwA]
    clear hwA bdr H3
    refine MixH.takes [true] 3 (by kernel_rfl) (by kernel_rfl) (by decide) (by kernel_rfl) hS (fun K hK => ?_)
    simp only [Mix.pick]
    repeat (go_big_quiet_step (fail))
    refine wpQuiet_nil (hK _ ?_)
    clear hK K
    refine MixH.take 2 1 _ (.agg (cfC (d3))) rfl (by kernel_rfl) (by kernel_rfl) (by kernel_rfl) (by kernel_rfl) (yields_cfg (.tmp 1) rfl B 0 (d3) rfl rfl (fun A hA => CfgAt.all hA)) hS (fun a' ha => ?_)
    simp only [Act.put, List.setIfInBounds_toArray, List.set_cons_succ, List.set_cons_zero] at ha
    subst ha
    refine MixH.takes [false, false, true] 1 (by kernel_rfl) (by kernel_rfl) (by decide) (by kernel_rfl) hS (fun K hK => ?_)
    simp only [Mix.pick]
    repeat (go_big_quiet_step (fail))
    refine wpQuiet_nil (hK _ ?_)
    clear hK K
    refine MixH.one [false, false, false, true] 0 3 _ rfl rfl (by kernel_rfl) (by kernel_rfl) (fun K hK => ?_)
    simp only [Mix.pick]
    clear hS
    refine wpList_store_cfg (.tmp 3) (.tmp 25) rfl rfl (B + 1) cz (d3) rfl rfl HSS.out.2.1 rfl ?_
    intro wE hE kE
    have HE : Hid (CfgAt wE (B + 1) (d3) ∧ CA wE t M (d3) [] ∧ Below w.heap.size w wE) := by
      have hn : ∀ q, CB t M [] q → ¬ (q = B + 1) := fun q hq e => cb_apart HSS.out.2.2.1 HSS.out.2.1 (by decide) (by decide) (by decide) (by rw [← e]; exact hq)
      exact ⟨hE, HSS.out.2.2.1.ch kE hn, HSS.out.2.2.2.trans (kE.below (fun q e => by have e' : q = B + 1 := e; have := HOX.out; omega) HSS.out.2.2.2.size)⟩
    have hS' : CfgAt wE B (d3) := HSS.out.1.ch kE (by omega)
    clear hE kE HSS
    go_wp2
    refine ⟨rfl, hK _ _ ?_ ?_⟩
    · exact hS'
    · clear hK K
      refine MixH.done (by kernel_rfl) ?_
      clear hS'
      go_wp2
      refine bodyPost_ret (results_tmp_cfg rfl _ _ (B + 1) _ rfl HE.out.1) rfl ?_
      rw [HR.out]
      exact ⟨t, M, rfl, HE.out.2.1, cfB_ok (by decide), eok_nil (cfB_ok (by decide)), HE.out.2.2, fun q hq => by rcases hq with rfl | rfl | ⟨e0, he0, _⟩; exact HT.out.1; exact HT.out.2; cases he0⟩
end Go.Proofs.Ytnpipngiehohgaa
