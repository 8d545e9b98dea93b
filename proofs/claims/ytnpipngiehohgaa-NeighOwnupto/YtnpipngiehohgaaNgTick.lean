/-
  Layer 15: Tick.
-/
import Derived.Test.YtnpipngiehohgaaNgTkP
namespace Go.Proofs.Ytnpipngiehohgaa
open Go.RowKit Go.Maps

/-- numbers in a row of one's own -/
abbrev IL (w : World) (base : Nat) (v : Value) (l : List Int) : Prop := w.ownsRow base 3 1 v l.length (l.map (Value.int .i64))
theorem IL.ch {S : Nat → Prop} {a b : World} {base : Nat} {v : Value} {L : List Int} (h : IL a base v L) (k : Ch S a b) (hS : ∀ g, v.ownBlock = some g → ¬ S g) : IL b base v L := k.owns h hS
theorem IL.below {a b : World} {base : Nat} {v : Value} {L : List Int} (h : IL a base v L) (k : Below a.heap.size a b) : IL b base v L := h.ch (Ch.ofBelow (S := fun _ => False) k) (fun _ _ => id)
theorem IL.cells {w : World} {base : Nat} {v : Value} {L : List Int} (h : IL w base v L) : ∀ g, v.ownBlock = some g → base ≤ g ∧ g < w.heap.size ∧ ∃ c, w.heap[g]? = some (.cells c 3 (0, 0)) := by
  intro g hg
  rcases h.2 with ⟨rfl, _⟩ | ⟨g', cap, cur, rfl, hb, hh, _⟩
  · simp [Value.ownBlock] at hg
  · simp [Value.ownBlock] at hg; subst hg; exact ⟨hb, (Array.getElem?_eq_some_iff.1 hh).1, cur, hh⟩
theorem IL.form {w : World} {base : Nat} {v : Value} {l : List Int} (h : IL w base v l) : ∃ a c, v = .slice a l.length c := by
  rcases h.2 with ⟨rfl, h0⟩ | ⟨g, cap, cur, rfl, _⟩
  · exact ⟨none, 0, by rw [h0]⟩
  · exact ⟨_, _, rfl⟩
theorem LnAt.seg {w : World} {a : Option Addr} {n c : Nat} {l : List Int} (h : LnAt w (.slice a n c) l) : Seg .i64 w a l := by
  rcases h.2 with ⟨e, h0⟩ | ⟨g, cap, cur, e, hb, hh, _⟩
  · exact .inl (List.eq_nil_of_length_eq_zero h0)
  · simp only [Value.slice.injEq] at e
    obtain ⟨rfl, _, rfl⟩ := e
    refine .inr ⟨g, 0, rfl, fun i hi => ?_⟩
    have hc := World.ownsRow.cells h rfl i (.int .i64 (l.getD i 0)) (by rw [List.getElem?_map, List.getElem?_eq_getElem hi]; simp [List.getD, hi])
    rw [Addr.add_lit] at hc
    exact hc
set_option maxRecDepth 100000 in
/-- append of a line onto numbers of one's own -/
theorem wpList_appi {ops : Array Oper} {rest : List Oper} {o : Oper} {a : Act} {w : World} {Q : Exit → Act → World → Prop} (hgd : o.guard = none) (s x : Operand) (ho : o.op = .call { callee := .builtin .append, args := #[s, x], argTypes := #[39, 39] })
    (base : Nat) (v : Value) (L : List Int) (hs : a.eval s = v) (hown : IL w base v L) (ad : Option Addr) (m c : Nat) (zs : List Int) (hx : a.eval x = .slice ad m c) (hm : zs.length = m) (hz : Seg .i64 w ad zs) (hL : L.length ≤ 100000) (hm2 : m ≤ 1000) (hb : base ≤ w.heap.size)
    (h : ∀ v' w', IL w' base v' (L ++ zs) → w.grownBy w' v.ownBlock → (∀ g, v'.ownBlock = some g → v.ownBlock = some g ∨ w.heap.size ≤ g) → wpList Try.prog ops Q rest (a.put o.dst v') w') : wpList Try.prog ops Q (o :: rest) a w := by
  obtain ⟨i, z, hi, hz0, hz1, hz2, hz3⟩ := Try.infoZ
  refine append_split_seg hgd s x 39 ho base 3 i z i.bytes Try.underlying39 hi hz0 hz1 rfl hz2 v L.length (L.map (Value.int .i64)) hs hown .i64 ad m c zs hx hm hz (by unfold maxLen; omega) (Nat.le_trans (Nat.mul_le_mul (show L.length + m ≤ 101000 by omega) hz3) (by decide)) hb ?_
  intro v' w' h1 h2 h3
  refine h v' w' ?_ h3 h2
  show w'.ownsRow base 3 1 v' (L ++ zs).length ((L ++ zs).map (Value.int .i64))
  rw [List.length_append, List.map_append, hm]
  exact h1
/-- a row of asks: none of the cache's blocks -/
theorem ask_apart {A : World} {t M B : Nat} {c : CF} {E : List EV} {cc : Array Value} (h : CA A t M c E) (hm : A.heap[B]? = some (.cells cc 114 (0, 0))) : ∀ q, CB t M E q → q ≠ B := fun q hq e => by
  rw [← e] at hm
  rcases hq with rfl | rfl | ⟨e0, he0, rfl | h0⟩
  · have h3 := h.cb; unfold CchAt at h3; rw [hm] at h3; simp only [Option.some.injEq, Obj.cells.injEq] at h3; exact absurd h3.2.1 (by decide)
  · obtain ⟨es, ck, h3⟩ := h.mblk; rw [hm] at h3; cases h3
  · have h3 := h.en e0 he0; unfold EntAt at h3; rw [hm] at h3; simp only [Option.some.injEq, Obj.cells.injEq] at h3; exact absurd h3.2.1 (by decide)
  · obtain ⟨dd, h3⟩ := (h.li e0 he0).kind q h0; rw [hm] at h3; simp only [Option.some.injEq, Obj.cells.injEq] at h3; exact absurd h3.2.1 (by decide)
theorem run_buildak (v : AK) (w : World) : (Instr.build 114 #[(0, .int .i64 v.k.pt), (1, .agg (ipCells v.k.V v.k.x)), (2, .agg (macC v.m)), (3, .int .i64 v.ty)]).run Try.prog w = .ok (.agg (akC v)) w := by kernel_rfl
theorem yields_buildak {ops : Array Oper} {S : World → Prop} {o : Oper} {a : Act} (y0 y1 y2 y3 : Operand) (ho : o.op = .build 114 #[(0, y0), (1, y1), (2, y2), (3, y3)]) (v : AK) (h0 : a.eval y0 = .int .i64 v.k.pt) (h1 : a.eval y1 = .agg (ipCells v.k.V v.k.x)) (h2 : a.eval y2 = .agg (macC v.m)) (h3 : a.eval y3 = .int .i64 v.ty)
    (hw : Region.wanted o (yielded ops a.tmps) = true) : YieldsIf Try.prog ops S o (.agg (akC v)) a := by
  refine .inl ⟨hw, fun w _ => ?_⟩
  obtain ⟨dst, op, type, pos, after, guard⟩ := o
  simp only at ho
  subst ho
  simp only [execOp, Sem.run_bind, List.map_toArray, List.map_cons, List.map_nil, h0, h1, h2, h3, run_buildak v w, Result.andThen_ok]
  rfl
theorem asks_len (c : CF) (E : List EV) (Ks : List KV) : (asksL c E Ks).length ≤ Ks.length := List.length_filterMap_le _ _
theorem lost_len {c : CF} {E : List EV} (hb : ∀ e ∈ E, e.n.ln.length ≤ 64) : ∀ Ks : List KV, (lostL c E Ks).length ≤ Ks.length * 64
  | [] => by simp [lostL]
  | k :: Ks => by
    have ih := lost_len (c := c) hb Ks
    have h1 : (lostOf c E k).length ≤ 64 := by
      unfold lostOf
      cases h : fE E k with
      | none => simp
      | some e =>
        simp only [Option.map_some, Option.getD_some]
        split
        · simp
        · exact hb e (fE_some h).1
    have h2 : lostL c E (k :: Ks) = lostOf c E k ++ lostL c E Ks := by simp [lostL]
    rw [h2, List.length_append, List.length_cons]
    omega
set_option maxHeartbeats 12800000 in
set_option maxRecDepth 100000 in
theorem tick_any (t M : Nat) (c : CF) (E : List EV) (w : World) (h : CA w t M c E) (hl : E.length ≤ 1024) (ha : ∀ e ∈ E, 0 ≤ e.n.ag ∧ e.n.ag ≤ 1048576) (hb : ∀ e ∈ E, e.n.ln.length ≤ 64) (ht : ∀ e ∈ E, 0 ≤ e.n.tr) (hc : c.tr ≤ 1000) :
    Calls Try.prog 17 #[.pointer (some ⟨t, 0, none⟩)] w fun r w' => ∃ av lv Kd, r = .returned (.tuple #[av, lv]) ∧ Kd.Perm (dueL c E) ∧ Kd.Pairwise (fun a b => 0 ≤ ordV b a) ∧ AL w' w.heap.size av (asksL c (E.map (ag1 c)) Kd) ∧ IL w' w.heap.size lv (lostL c (E.map (ag1 c)) Kd) ∧ CA w' t M c (E.filterMap (tickE c)) ∧ Ch (CB t M E) w w' := by
  have QO : Hid _ := olderC_any t M c E w h hl ha
  have HC : Hid (CA w t M c E ∧ E.length ≤ 1024 ∧ (∀ e ∈ E, e.n.ln.length ≤ 64) ∧ (∀ e ∈ E, 0 ≤ e.n.tr) ∧ c.tr ≤ 1000 ∧ Dj E) := ⟨h, hl, hb, ht, hc, h.dj⟩
  clear h hl ha hb ht hc
  go_enter Try.func17, Try.ntmps17
  go_wp2_with fail
  refine Calls.mono QO.out ?_
  rintro r w1 ⟨kv, rfl, Kd, hKL, hp, hso, hCA, hch⟩
  obtain ⟨ka, kc, hkf⟩ := hKL.form
  obtain ⟨nk, hnk⟩ : ∃ nk, nk = Kd.length := ⟨_, rfl⟩
  rw [← hnk] at hkf
  subst hkf
  obtain ⟨E0, hE0⟩ : ∃ E0, E0 = E.map (ag1 c) := ⟨_, rfl⟩
  rw [← hE0] at hCA
  have HK : Hid (Kd.length = nk ∧ Kd.Perm (dueL c E) ∧ Kd.Pairwise (fun a b => 0 ≤ ordV b a) ∧ Kd.Pairwise (fun a b => eqP a b = false) ∧ nk ≤ 1024 ∧ E0 = E.map (ag1 c)) := ⟨hnk.symm, hp, hso, (hp.pairwise_iff (fun {a b} h => by rw [eqP_comm]; exact h)).2 (dueL_dj HC.out.2.2.2.2.2), by
    have h1 := hp.length_eq
    have h2 := dueL_len c E
    have h3 := HC.out.2.1
    omega, hE0⟩
  have HD0 : Hid (Dj E0) := by show Dj E0; rw [hE0]; exact ag1_dj HC.out.2.2.2.2.2
  have HL0 : Hid (∀ e ∈ E0, e.n.ln.length ≤ 64 ∧ 0 ≤ e.n.tr) := fun e he => by
    rw [hE0] at he
    obtain ⟨x, hx, rfl⟩ := List.mem_map.1 he
    refine ⟨by rw [show (ag1 c x).n.ln = x.n.ln from oldN_ln c x.n]; exact HC.out.2.2.1 x hx, ?_⟩
    have := HC.out.2.2.2.1 x hx
    show 0 ≤ (oldN c x.n).tr
    unfold oldN
    split
    · exact Int.le_refl _
    · exact this
  have HCE : Hid (∀ q, CB t M E0 q → CB t M E q) := fun q hq => ag1_cb q (by rw [hE0] at hq; exact hq)
  have HR0 : Hid (CA w1 t M c (tkL c E0 ([])) ∧ AL w1 w.heap.size (.slice none 0 0) (asksL c E0 ([])) ∧ IL w1 w.heap.size (.slice none 0 0) (lostL c E0 ([])) ∧ KL w1 w.heap.size (.slice ka nk kc) Kd ∧ Ch (CB t M E) w w1) := ⟨by rw [tkL_nil]; exact hCA, AL.nil _ _, World.ownsRow_nil _ _ _ _, hKL, hch.mono (fun q _ h => by obtain ⟨e, he, hq⟩ := h; exact .inr (.inr ⟨e, he, .inl hq⟩))⟩
  clear hKL hp hso hCA hch hnk hE0 QO
  go_wp2_with fail
  go_loopw [4, 5, 12] (fun a l ix wr => ∃ (av lv : Value) (i : Nat), ix = .int .i64 i ∧ i ≤ nk ∧ Hid (av = a ∧ lv = l) ∧ Hid (CA wr t M c (tkL c E0 (Kd.take i)) ∧ AL wr w.heap.size av (asksL c E0 (Kd.take i)) ∧ IL wr w.heap.size lv (lostL c E0 (Kd.take i)) ∧ KL wr w.heap.size (.slice ka nk kc) Kd ∧ Ch (CB t M E) w wr)) (fun _ _ ix _ => nk - (intOf ix).toNat)
  case atStart => exact ⟨_, _, 0, rfl, Nat.zero_le _, ⟨rfl, rfl⟩, HR0⟩
  case round =>
    obtain ⟨av, lv, i, rfl, hi, HEQ, HR⟩ := hrel
    obtain ⟨rfl, rfl⟩ := HEQ.out
    clear HEQ
    clear HR0
    by_cases hlt : i < nk
    · have k0 : (0 : Int) ≤ (i : Int) := by omega
      have k1 : (i : Int) < (nk : Int) := by omega
      have k2 : ((i : Int)).toNat = i := by omega
      have wi : IntKind.i64.wrap ((i : Int) + 1) = (i : Int) + 1 := by have := HK.out.2.2.2.2.1; rw [IntKind.wrap_i64]; omega
      obtain ⟨k, hk⟩ : ∃ k, Kd[i]? = some k := ⟨_, List.getElem?_eq_getElem (by rw [HK.out.1]; exact hlt)⟩
      obtain ⟨g, cap, hvg, hg1, hg2, hrg⟩ := HR.out.2.2.2.1.at i k hk
      simp only [Value.slice.injEq] at hvg
      obtain ⟨rfl, hq0, rfl⟩ := hvg
      clear hq0
      have HRG : Hid (wr.rangeAt g (i * 18) (kC k).toList) := hrg
      obtain ⟨e1, he1, hke, hdu, hfe⟩ := due_fE HC.out.2.2.2.2.2 HK.out.2.1 (List.mem_of_getElem? hk)
      obtain ⟨e, he⟩ : ∃ e, e = ag1 c e1 := ⟨_, rfl⟩
      rw [← HK.out.2.2.2.2.2, ← he] at hfe
      have HFE : Hid (fE E0 k = some e) := hfe
      have HEK : Hid (e.n.k = k ∧ e ∈ E0) := ⟨by rw [he, hke]; exact oldN_k c e1.n, (fE_some hfe).1⟩
      have HNK : Hid (inK (Kd.take i) e = false) := K_take HK.out.2.2.2.1 hk HEK.out.1
      have HKW : Hid k.Wf := by show k.Wf; rw [hke]; exact HC.out.1.wf e1 he1
      have HTK : Hid (Kd.take (i + 1) = Kd.take i ++ [k] ∧ i < nk) := ⟨by rw [List.take_add_one, hk]; rfl, hlt⟩
      have HPV : Hid (ptE (fE (tkL c E0 (Kd.take i)) k) = .pointer (some ⟨e.P, 0, none⟩)) := by show _ = _; rw [tkL_fE HD0.out hfe HNK.out]; rfl
      have HFT : Hid (fE (tkL c E0 (Kd.take i)) k = some e) := tkL_fE HD0.out hfe HNK.out
      have HLA : Hid ((asksL c E0 (Kd.take i)).length ≤ 100000) := by have h1 := asks_len c E0 (Kd.take i); have h2 : (Kd.take i).length ≤ i := List.length_take_le i Kd; have h3 := HK.out.2.2.2.2.1; show _ ≤ _; omega
      have HLL : Hid ((lostL c E0 (Kd.take i)).length ≤ 100000) := by have h1 := lost_len (c := c) (fun e he => (HL0.out e he).1) (Kd.take i); have h2 : (Kd.take i).length ≤ i := List.length_take_le i Kd; have h3 := HK.out.2.2.2.2.1; show _ ≤ _; omega
      clear hk hg1 hg2 hrg he1 hke hdu hfe he hlt hi
      go_wp2_with (first | (refine wpList_mid_key (.tmp 14) rfl g (i * 18) k rfl HRG.out rfl ?_) | (refine wpList_alloc_key rfl rfl ?_) | (refine wpList_store_key (.tmp 7) (.tmp 15) rfl rfl wr.heap.size kz k rfl rfl (key_new wr kz) rfl ?_))
      intro w2 hR2 k2'
      have bz : Below wr.heap.size wr (wr.alloc (.cells (kC kz) 98)) := (Below.refl _ _).alloc (Nat.le_refl _) _
      have b2 : Below wr.heap.size wr w2 := bz.trans (k2'.below (fun q e => by have e' : q = wr.heap.size := e; omega) bz.size)
      obtain ⟨O7, hO7⟩ : ∃ O, O = wr.heap.size := ⟨_, rfl⟩
      rw [← hO7] at hR2 ⊢
      have carry : ∀ {A B : World}, Below A.heap.size A B → Hid (CA A t M c (tkL c E0 (Kd.take i)) ∧ AL A w.heap.size av (asksL c E0 (Kd.take i)) ∧ IL A w.heap.size lv (lostL c E0 (Kd.take i)) ∧ KL A w.heap.size (.slice (some ⟨g, 0, none⟩) nk kc) Kd ∧ Ch (CB t M E) w A) → Hid (CA B t M c (tkL c E0 (Kd.take i)) ∧ AL B w.heap.size av (asksL c E0 (Kd.take i)) ∧ IL B w.heap.size lv (lostL c E0 (Kd.take i)) ∧ KL B w.heap.size (.slice (some ⟨g, 0, none⟩) nk kc) Kd ∧ Ch (CB t M E) w B) := fun b H => ⟨H.out.1.below b, H.out.2.1.below b, H.out.2.2.1.below b, H.out.2.2.2.1.below b, H.out.2.2.2.2.trans (Ch.ofBelow (S := fun _ => False) b) (fun _ _ h => h.elim)⟩
      have H2 : Hid (CA w2 t M c (tkL c E0 (Kd.take i)) ∧ AL w2 w.heap.size av (asksL c E0 (Kd.take i)) ∧ IL w2 w.heap.size lv (lostL c E0 (Kd.take i)) ∧ KL w2 w.heap.size (.slice (some ⟨g, 0, none⟩) nk kc) Kd ∧ Ch (CB t M E) w w2) := carry b2 HR
      have HK2 : Hid (KeyAt w2 O7 k) := hR2
      have HCR : Hid (∀ {A B : World}, Below A.heap.size A B → Hid (CA A t M c (tkL c E0 (Kd.take i)) ∧ AL A w.heap.size av (asksL c E0 (Kd.take i)) ∧ IL A w.heap.size lv (lostL c E0 (Kd.take i)) ∧ KL A w.heap.size (.slice (some ⟨g, 0, none⟩) nk kc) Kd ∧ Ch (CB t M E) w A) → Hid (CA B t M c (tkL c E0 (Kd.take i)) ∧ AL B w.heap.size av (asksL c E0 (Kd.take i)) ∧ IL B w.heap.size lv (lostL c E0 (Kd.take i)) ∧ KL B w.heap.size (.slice (some ⟨g, 0, none⟩) nk kc) Kd ∧ Ch (CB t M E) w B)) := carry
      clear hR2 k2' bz b2 hO7 HRG carry
      go_upto_region 6 with fail
      go_cut [8] (fun v wx => v = .pointer (some ⟨e.P, 0, none⟩) ∧ Hid (CA wx t M c (tkL c E0 (Kd.take i)) ∧ AL wx w.heap.size av (asksL c E0 (Kd.take i)) ∧ IL wx w.heap.size lv (lostL c E0 (Kd.take i)) ∧ KL wx w.heap.size (.slice (some ⟨g, 0, none⟩) nk kc) Kd ∧ Ch (CB t M E) w wx) ∧ Hid (KeyAt wx O7 k))
      case first =>
        refine MixH.start (fun A => KeyAt A O7 k ∧ CA A t M c (tkL c E0 (Kd.take i))) (by kernel_rfl) ?_
        obtain ⟨wA, hwA⟩ : ∃ wA, wA = w2.drew := ⟨_, rfl⟩
        have bdr : Below w2.heap.size w2 wA := by rw [hwA]; exact (Below.refl _ _).drew
        have H3 := HCR.out bdr H2
        have HK3 : Hid (KeyAt wA O7 k) := HK2.out.below bdr
        have hS : KeyAt wA O7 k ∧ CA wA t M c (tkL c E0 (Kd.take i)) := ⟨HK3.out, H3.out.1⟩
        rw [← hwA]
        clear hwA bdr
        refine MixH.takes [true, true, true] 4 (by kernel_rfl) (by kernel_rfl) (by decide) (by kernel_rfl) hS (fun K hK => ?_)
        simp only [Mix.pick]
        repeat (go_big_quiet_step (fail))
        refine wpQuiet_nil (hK _ ?_)
        clear hK K
        refine MixH.take 3 3 _ (.map (some M)) rfl (by kernel_rfl) (by kernel_rfl) (by kernel_rfl) (by kernel_rfl) (yields_map (.tmp 18) rfl ⟨t, 5, none⟩ (.map (some M)) rfl rfl (fun A hA => hA.2.cb.mp)) hS (fun a' ha => ?_)
        simp only [Act.put, List.setIfInBounds_toArray, List.set_cons_succ, List.set_cons_zero] at ha
        subst ha
        refine MixH.take 2 4 _ (.agg (kC k)) rfl (by kernel_rfl) (by kernel_rfl) (by kernel_rfl) (by kernel_rfl) (yields_key (.tmp 7) rfl O7 0 k rfl rfl (fun A hA => hA.1.all)) hS (fun a' ha => ?_)
        simp only [Act.put, List.setIfInBounds_toArray, List.set_cons_succ, List.set_cons_zero] at ha
        subst ha
        refine MixH.take 1 5 _ (.pointer (some ⟨e.P, 0, none⟩)) rfl (by kernel_rfl) (by kernel_rfl) (by kernel_rfl) (by kernel_rfl) (yields_look (.tmp 19) (.tmp 20) rfl t M c (tkL c E0 (Kd.take i)) k HKW.out rfl rfl (.pointer (some ⟨e.P, 0, none⟩)) HPV.out rfl (fun A hA => hA.2)) hS (fun a' ha => ?_)
        simp only [Act.put, List.setIfInBounds_toArray, List.set_cons_succ, List.set_cons_zero] at ha
        subst ha
        refine MixH.takes [false, false, false, false, false, false, true] 0 (by kernel_rfl) (by kernel_rfl) (by decide) (by kernel_rfl) hS (fun K hK => ?_)
        simp only [Mix.pick]
        repeat (go_big_quiet_step (fail))
        refine wpQuiet_nil (hK _ ?_)
        clear hK K
        refine MixH.done (by kernel_rfl) ?_
        clear hS
        go_wp2
        go_meet
        exact ⟨rfl, H3, HK3⟩
      case rest =>
        obtain ⟨rfl, H3, HK3⟩ := hcut
        clear H2 HK2
        obtain ⟨w3, hw3⟩ : ∃ w3, w3 = wc := ⟨_, rfl⟩
        rw [← hw3] at H3 HK3 ⊢
        clear hw3
        have HEN : Hid (∀ A, CA A t M c (tkL c E0 (Kd.take i)) → EntAt A e ∧ LnAt A e.lv e.n.ln) := fun A hA => ⟨hA.en e (fE_some HFT.out).1, hA.li e (fE_some HFT.out).1⟩
        go_upto_region 7 with fail
        go_cut [31] (fun v wx => v = .bool (decide (e.n.tr < c.tr)) ∧ Hid (CA wx t M c (tkL c E0 (Kd.take i)) ∧ AL wx w.heap.size av (asksL c E0 (Kd.take i)) ∧ IL wx w.heap.size lv (lostL c E0 (Kd.take i)) ∧ KL wx w.heap.size (.slice (some ⟨g, 0, none⟩) nk kc) Kd ∧ Ch (CB t M E) w wx) ∧ Hid (KeyAt wx O7 k))
        case first =>
          refine MixH.start (fun A => EntAt A e ∧ CchAt A t c M) (by kernel_rfl) ?_
          obtain ⟨wA, hwA⟩ : ∃ wA, wA = w3.drew := ⟨_, rfl⟩
          have bdr : Below w3.heap.size w3 wA := by rw [hwA]; exact (Below.refl _ _).drew
          have H4 := HCR.out bdr H3
          have HK4 : Hid (KeyAt wA O7 k) := HK3.out.below bdr
          have hS : EntAt wA e ∧ CchAt wA t c M := ⟨(HEN.out wA H4.out.1).1, H4.out.1.cb⟩
          rw [← hwA]
          clear hwA bdr
          refine MixH.takes [true, true, true, false, true, true, true, true] 3 (by kernel_rfl) (by kernel_rfl) (by decide) (by kernel_rfl) hS (fun K hK => ?_)
          simp only [Mix.pick]
          repeat (go_big_quiet_step (fail))
          refine wpQuiet_nil (hK _ ?_)
          clear hK K
          refine MixH.take 2 3 _ (.int .i64 e.n.tr) rfl (by kernel_rfl) (by kernel_rfl) (by kernel_rfl) (by kernel_rfl) (yields_int (.tmp 24) rfl ⟨e.P, 8, none⟩ (.int .i64 e.n.tr) rfl rfl (fun A hA => EntAt.cell hA.1 8)) hS (fun a' ha => ?_)
          simp only [Act.put, List.setIfInBounds_toArray, List.set_cons_succ, List.set_cons_zero] at ha
          subst ha
          refine MixH.take 1 8 _ (.int .i64 c.tr) rfl (by kernel_rfl) (by kernel_rfl) (by kernel_rfl) (by kernel_rfl) (yields_int (.tmp 29) rfl ⟨t, 3, none⟩ (.int .i64 c.tr) rfl rfl (fun A hA => hA.2.cell 3)) hS (fun a' ha => ?_)
          simp only [Act.put, List.setIfInBounds_toArray, List.set_cons_succ, List.set_cons_zero] at ha
          subst ha
          refine MixH.takes [false, false, false, false, false, false, false, false, false, true] 0 (by kernel_rfl) (by kernel_rfl) (by decide) (by kernel_rfl) hS (fun K hK => ?_)
          simp only [Mix.pick]
          repeat (go_big_quiet_step (fail))
          refine wpQuiet_nil (hK _ ?_)
          clear hK K
          refine MixH.done (by kernel_rfl) ?_
          clear hS
          go_wp2
          go_meet
          exact ⟨rfl, H4, HK4⟩
        case rest =>
          obtain ⟨rfl, H4, HK4⟩ := hcut
          clear H3 HK3
          obtain ⟨w4, hw4⟩ : ∃ w4, w4 = wc := ⟨_, rfl⟩
          rw [← hw4] at H4 HK4 ⊢
          clear hw4
          by_cases htr : e.n.tr < c.tr
          · have qt : decide (e.n.tr < c.tr) = true := by simpa using htr
            rw [qt]
            have HTR : Hid (e.n.tr < c.tr) := htr
            have wt : IntKind.i64.wrap (e.n.tr + 1) = e.n.tr + 1 := by have h1 := (HL0.out e HEK.out.2).2; have h2 := HC.out.2.2.2.2.1; rw [IntKind.wrap_i64]; omega
            have HAS : Hid (asksL c E0 (Kd.take i ++ [k]) = asksL c E0 (Kd.take i) ++ [⟨k, e.n.m, e.n.tr + 1⟩] ∧ lostL c E0 (Kd.take i ++ [k]) = lostL c E0 (Kd.take i)) := by
              refine ⟨?_, ?_⟩
              · rw [asks_snoc]; unfold askOf; rw [HFE.out]; simp [htr]
              · rw [lost_snoc]; unfold lostOf; rw [HFE.out]; simp [htr]
            clear qt htr
            go_upto_region 8 with fail
            go_cut [] (fun wx => Hid (EntAt wx ⟨{ e.n with ag := 0, tr := e.n.tr + 1 }, e.P, e.lv⟩ ∧ CA wx t M c (tkL c E0 (Kd.take i ++ [k])) ∧ AL wx w.heap.size av (asksL c E0 (Kd.take i)) ∧ IL wx w.heap.size lv (lostL c E0 (Kd.take i)) ∧ KL wx w.heap.size (.slice (some ⟨g, 0, none⟩) nk kc) Kd ∧ Ch (CB t M E) w wx ∧ KeyAt wx O7 k))
            case first =>
              have c6 := EntAt.cell (HEN.out w4 H4.out.1).1 6
              have c8 := EntAt.cell (HEN.out w4 H4.out.1).1 8
              simp only [enC, List.getElem?_toArray, List.getElem?_cons_succ, List.getElem?_cons_zero] at c6 c8
              have bdr : Below w4.heap.size w4 w4.drew := (Below.refl _ _).drew
              have H5 := HCR.out bdr H4
              have HK5 : Hid (KeyAt w4.drew O7 k) := HK4.out.below bdr
              have QT : Hid _ := turn_any e e.n.st (e.n.tr + 1) w4.drew (HEN.out _ H5.out.1).1
              have FIN : Hid (∀ wB, EntAt wB ⟨{ e.n with st := e.n.st, ag := 0, tr := e.n.tr + 1 }, e.P, e.lv⟩ → Ch (fun q => q = e.P) w4.drew wB → EntAt wB ⟨{ e.n with ag := 0, tr := e.n.tr + 1 }, e.P, e.lv⟩ ∧ CA wB t M c (tkL c E0 (Kd.take i ++ [k])) ∧ AL wB w.heap.size av (asksL c E0 (Kd.take i)) ∧ IL wB w.heap.size lv (lostL c E0 (Kd.take i)) ∧ KL wB w.heap.size (.slice (some ⟨g, 0, none⟩) nk kc) Kd ∧ Ch (CB t M E) w wB ∧ KeyAt wB O7 k) := fun wB hE kB => by
                have hm := (fE_some HFT.out).1
                have hnt := (H5.out.1.nt.2.1 e hm)
                have hen := (HEN.out _ H5.out.1).1
                have kB' : Ch (fun q => q = e.P ∨ e.lv.ownBlock = some q) w4.drew wB := kB.mono (fun _ _ h => .inl h)
                have hLN : LnAt wB e.lv e.n.ln := kB.owns (HEN.out _ H5.out.1).2 (fun g hg q => hnt.2.2 e hm (by have q' : g = e.P := q; rw [hg, q']))
                have nk : ∀ (q : Nat) (cc : Array Value) (T : Nat), w4.drew.heap[q]? = some (.cells cc T (0, 0)) → T ≠ 105 → q ≠ e.P := fun q cc T hq hT e0 => by
                  unfold EntAt at hen
                  rw [e0, hen] at hq
                  simp only [Option.some.injEq, Obj.cells.injEq] at hq
                  exact hT hq.2.1.symm
                refine ⟨hE, ?_, H5.out.2.1.ch kB (fun g hg e0 => ?_), H5.out.2.2.1.ch kB (fun g hg e0 => ?_), H5.out.2.2.2.1.ch kB (fun g hg e0 => ?_), H5.out.2.2.2.2.trans kB (fun q _ hq => ?_), HK5.out.ch kB (fun e0 => ?_)⟩
                · rw [← tkL_again HD0.out HFE.out HNK.out HTR.out]
                  exact H5.out.1.turned HFT.out rfl rfl kB' hE hLN (fun g hg => .inl hg)
                · obtain ⟨_, _, cc, hcc⟩ := H5.out.2.1.cells g hg
                  exact nk g cc _ hcc (by decide) e0
                · obtain ⟨_, _, cc, hcc⟩ := IL.cells H5.out.2.2.1 g hg
                  exact nk g cc _ hcc (by decide) e0
                · obtain ⟨_, _, cc, hcc⟩ := H5.out.2.2.2.1.cells g hg
                  exact nk g cc _ hcc (by decide) e0
                · exact HCE.out q (.inr (.inr ⟨e, HEK.out.2, .inl hq⟩))
                · have h1 := HK5.out
                  unfold KeyAt at h1
                  exact nk O7 _ _ h1 (by decide) e0
              clear bdr
              go_region_with (go_at_call 49; refine Calls.mono QT.out ?_; rintro rr wB ⟨rfl, hEB, kB⟩)
              all_goals
                go_wp2
                go_meet
                exact FIN.out _ hEB kB
            case rest =>
              have HA8 : Hid _ := hcut.out
              clear hcut H4 HK4
              obtain ⟨w5, hw5⟩ : ∃ w5, w5 = wc := ⟨_, rfl⟩
              rw [← hw5] at HA8 ⊢
              clear hw5
              go_upto_region 9 with fail
              refine MixH.start (fun A => EntAt A ⟨{ e.n with ag := 0, tr := e.n.tr + 1 }, e.P, e.lv⟩ ∧ KeyAt A O7 k) (by kernel_rfl) ?_
              obtain ⟨wA, hwA⟩ : ∃ wA, wA = w5.drew := ⟨_, rfl⟩
              have bdr : Below w5.heap.size w5 wA := by rw [hwA]; exact (Below.refl _ _).drew
              have HA9 : Hid (CA wA t M c (tkL c E0 (Kd.take i ++ [k])) ∧ AL wA w.heap.size av (asksL c E0 (Kd.take i)) ∧ IL wA w.heap.size lv (lostL c E0 (Kd.take i)) ∧ KL wA w.heap.size (.slice (some ⟨g, 0, none⟩) nk kc) Kd ∧ Ch (CB t M E) w wA) := ⟨HA8.out.2.1.below bdr, HA8.out.2.2.1.below bdr, HA8.out.2.2.2.1.below bdr, HA8.out.2.2.2.2.1.below bdr, HA8.out.2.2.2.2.2.1.trans (Ch.ofBelow (S := fun _ => False) bdr) (fun _ _ h => h.elim)⟩
              have hS : EntAt wA ⟨{ e.n with ag := 0, tr := e.n.tr + 1 }, e.P, e.lv⟩ ∧ KeyAt wA O7 k := ⟨EntAt.below HA8.out.1 bdr, HA8.out.2.2.2.2.2.2.below bdr⟩
              rw [← hwA]
              clear hwA bdr HA8
              refine MixH.takes [true, true, false, true, false, true, true, true, false, true, true, true] 8 (by kernel_rfl) (by kernel_rfl) (by decide) (by kernel_rfl) hS (fun K hK => ?_)
              simp only [Mix.pick]
              repeat (go_big_quiet_step (fail))
              refine wpQuiet_nil (hK _ ?_)
              clear hK K
              refine MixH.take 7 2 _ (.int .i64 k.pt) rfl (by kernel_rfl) (by kernel_rfl) (by kernel_rfl) (by kernel_rfl) (yields_int (.tmp 44) rfl ⟨O7, 0, none⟩ (.int .i64 k.pt) rfl rfl (fun A hA => hA.2.cell 0)) hS (fun a' ha => ?_)
              simp only [Act.put, List.setIfInBounds_toArray, List.set_cons_succ, List.set_cons_zero] at ha
              subst ha
              refine MixH.take 6 4 _ (.agg (ipCells k.V k.x)) rfl (by kernel_rfl) (by kernel_rfl) (by kernel_rfl) (by kernel_rfl) (yields_ipr (.tmp 46) rfl O7 1 k.V k.x rfl rfl (fun A hA => hA.2.ip)) hS (fun a' ha => ?_)
              simp only [Act.put, List.setIfInBounds_toArray, List.set_cons_succ, List.set_cons_zero] at ha
              subst ha
              refine MixH.take 5 8 _ (.agg (macC e.n.m)) rfl (by kernel_rfl) (by kernel_rfl) (by kernel_rfl) (by kernel_rfl) (yields_mac (.tmp 50) rfl e.P 0 e.n.m rfl rfl (fun A hA => EntAt.mac (e := ⟨{ e.n with ag := 0, tr := e.n.tr + 1 }, e.P, e.lv⟩) hA.1)) hS (fun a' ha => ?_)
              simp only [Act.put, List.setIfInBounds_toArray, List.set_cons_succ, List.set_cons_zero] at ha
              subst ha
              refine MixH.take 4 12 _ (.int .i64 (e.n.tr + 1)) rfl (by kernel_rfl) (by kernel_rfl) (by kernel_rfl) (by kernel_rfl) (yields_int (.tmp 54) rfl ⟨e.P, 8, none⟩ (.int .i64 (e.n.tr + 1)) rfl rfl (fun A hA => EntAt.cell (e := ⟨{ e.n with ag := 0, tr := e.n.tr + 1 }, e.P, e.lv⟩) hA.1 8)) hS (fun a' ha => ?_)
              simp only [Act.put, List.setIfInBounds_toArray, List.set_cons_succ, List.set_cons_zero] at ha
              subst ha
              refine MixH.take 3 13 _ (.agg (akC ⟨k, e.n.m, e.n.tr + 1⟩)) rfl (by kernel_rfl) (by kernel_rfl) (by kernel_rfl) (by kernel_rfl) (yields_buildak (.tmp 45) (.tmp 47) (.tmp 51) (.tmp 55) rfl ⟨k, e.n.m, e.n.tr + 1⟩ rfl rfl rfl rfl rfl) hS (fun a' ha => ?_)
              simp only [Act.put, List.setIfInBounds_toArray, List.set_cons_succ, List.set_cons_zero] at ha
              subst ha
              refine MixH.one [false, false, false, false, false, false, false, false, false, false, false, false, false, false, true] 2 14 _ rfl rfl (by kernel_rfl) (by kernel_rfl) (fun K hK => ?_)
              simp only [Mix.pick]
              refine wpList_bs1a (.tmp 56) rfl ⟨k, e.n.m, e.n.tr + 1⟩ rfl rfl ?_
              have bn : Below wA.heap.size wA (wA.alloc (.cells (akC ⟨k, e.n.m, e.n.tr + 1⟩) 114)) := (Below.refl _ _).alloc (Nat.le_refl _) _
              have hkn := ask_new wA ⟨k, e.n.m, e.n.tr + 1⟩
              obtain ⟨wN, hwN⟩ : ∃ wN, wN = wA.alloc (.cells (akC ⟨k, e.n.m, e.n.tr + 1⟩) 114) := ⟨_, rfl⟩
              rw [← hwN] at bn hkn ⊢
              have HN : Hid (AskAt wN wA.heap.size ⟨k, e.n.m, e.n.tr + 1⟩ ∧ CA wN t M c (tkL c E0 (Kd.take i ++ [k])) ∧ AL wN w.heap.size av (asksL c E0 (Kd.take i)) ∧ IL wN w.heap.size lv (lostL c E0 (Kd.take i)) ∧ KL wN w.heap.size (.slice (some ⟨g, 0, none⟩) nk kc) Kd ∧ Ch (CB t M E) w wN) := ⟨hkn, HA9.out.1.below bn, HA9.out.2.1.below bn, HA9.out.2.2.1.below bn, HA9.out.2.2.2.1.below bn, HA9.out.2.2.2.2.trans (Ch.ofBelow (S := fun _ => False) bn) (fun _ _ h => h.elim)⟩
              replace hS : EntAt wN ⟨{ e.n with ag := 0, tr := e.n.tr + 1 }, e.P, e.lv⟩ ∧ KeyAt wN O7 k := ⟨EntAt.below hS.1 bn, hS.2.below bn⟩
              clear bn hkn hwN
              go_wp2_with fail
              refine ⟨rfl, hK _ _ hS ?_⟩
              clear hK K
              refine MixH.one [false, false, false, false, false, false, false, false, false, false, false, false, false, false, false, true] 1 15 _ rfl rfl (by kernel_rfl) (by kernel_rfl) (fun K hK => ?_)
              simp only [Mix.pick]
              refine wpList_app1a rfl (.tmp 43) (.tmp 57) rfl w.heap.size av (asksL c E0 (Kd.take i)) rfl HN.out.2.2.1 wA.heap.size ⟨k, e.n.m, e.n.tr + 1⟩ rfl HN.out.1 HLA.out HN.out.2.2.2.2.2.size ?_
              intro av' wO hlO hgO hvO
              have kO := Ch.ofGrown hgO
              have hcl := HN.out.2.2.1.cells
              have HO : Hid (CA wO t M c (tkL c E0 (Kd.take i ++ [k])) ∧ AL wO w.heap.size av' (asksL c E0 (Kd.take i) ++ [⟨k, e.n.m, e.n.tr + 1⟩]) ∧ IL wO w.heap.size lv (lostL c E0 (Kd.take i)) ∧ KL wO w.heap.size (.slice (some ⟨g, 0, none⟩) nk kc) Kd ∧ Ch (CB t M E) w wO) := by
                refine ⟨HN.out.2.1.ch kO (fun q hq e0 => ?_), hlO, HN.out.2.2.2.1.ch kO (fun g hg e0 => ?_), HN.out.2.2.2.2.1.ch kO (fun g hg e0 => ?_), HN.out.2.2.2.2.2.trans kO (fun q h1 h2 => by have := (hcl q h2).1; omega)⟩
                · obtain ⟨_, _, cc, hcc⟩ := hcl q e0
                  exact ask_apart HN.out.2.1 hcc q hq rfl
                · obtain ⟨_, _, cc, hcc⟩ := hcl g e0
                  obtain ⟨_, _, dd, hdd⟩ := HN.out.2.2.2.1.cells g hg
                  rw [hcc] at hdd
                  simp only [Option.some.injEq, Obj.cells.injEq] at hdd
                  exact absurd hdd.2.1 (by decide)
                · obtain ⟨_, _, cc, hcc⟩ := hcl g e0
                  obtain ⟨_, _, dd, hdd⟩ := HN.out.2.2.2.2.1.cells g hg
                  rw [hcc] at hdd
                  simp only [Option.some.injEq, Obj.cells.injEq] at hdd
                  exact absurd hdd.2.1 (by decide)
              replace hS : EntAt wO ⟨{ e.n with ag := 0, tr := e.n.tr + 1 }, e.P, e.lv⟩ ∧ KeyAt wO O7 k := by
                refine ⟨EntAt.ch hS.1 kO (fun e0 => ?_), hS.2.ch kO (fun e0 => ?_)⟩
                · obtain ⟨_, _, cc, hcc⟩ := hcl e.P e0
                  have h1 := hS.1
                  unfold EntAt at h1
                  rw [hcc] at h1
                  simp only [Option.some.injEq, Obj.cells.injEq] at h1
                  exact absurd h1.2.1 (by decide)
                · obtain ⟨_, _, cc, hcc⟩ := hcl O7 e0
                  have h1 := hS.2
                  unfold KeyAt at h1
                  rw [hcc] at h1
                  simp only [Option.some.injEq, Obj.cells.injEq] at h1
                  exact absurd h1.2.1 (by decide)
              clear kO hcl hlO hgO hvO
              go_wp2_with fail
              refine ⟨rfl, hK _ _ hS ?_⟩
              clear hK K
              refine MixH.takes [false, false, false, false, false, false, false, false, false, false, false, false, false, false, false, false, true] 0 (by kernel_rfl) (by kernel_rfl) (by decide) (by kernel_rfl) hS (fun K hK => ?_)
              simp only [Mix.pick]
              repeat (go_big_quiet_step (fail))
              refine wpQuiet_nil (hK _ ?_)
              clear hK K
              refine MixH.done (by kernel_rfl) ?_
              clear hS
              go_wp2_with fail
              go_roundw
              case rel => exact ⟨av', lv, i + 1, by simp, by have := HTK.out.2; omega, ⟨rfl, rfl⟩, by rw [HTK.out.1, HAS.out.1, HAS.out.2]; exact HO⟩
              case measure => have := HTK.out.2; simp [intOf]; omega
          · have qt : decide (e.n.tr < c.tr) = false := by simpa using htr
            rw [qt]
            have HTR : Hid (c.tr ≤ e.n.tr) := Int.not_lt.1 htr
            have HAS : Hid (asksL c E0 (Kd.take i ++ [k]) = asksL c E0 (Kd.take i) ∧ lostL c E0 (Kd.take i ++ [k]) = lostL c E0 (Kd.take i) ++ e.n.ln) := by
              refine ⟨?_, ?_⟩
              · rw [asks_snoc]; unfold askOf; rw [HFE.out]; simp [htr]
              · rw [lost_snoc]; unfold lostOf; rw [HFE.out]; simp [htr]
            clear qt htr
            have hln := (HEN.out w4 H4.out.1).2
            obtain ⟨la, lc, hlf⟩ := LnAt.form hln
            obtain ⟨nl, hnl⟩ : ∃ nl, nl = e.n.ln.length := ⟨_, rfl⟩
            rw [← hnl] at hlf
            have HLF : Hid (e.lv = .slice la nl lc ∧ e.n.ln.length = nl ∧ nl ≤ 64 ∧ Seg .i64 w4 la e.n.ln) := ⟨hlf, hnl.symm, by rw [hnl]; exact (HL0.out e HEK.out.2).1, LnAt.seg (by rw [hlf] at hln; exact hln)⟩
            have c9 := EntAt.cell (HEN.out w4 H4.out.1).1 9
            simp only [enC, List.getElem?_toArray, List.getElem?_cons_succ, List.getElem?_cons_zero] at c9
            rw [hlf] at c9
            clear hln hlf hnl
            go_upto_region 10 with fail
            go_wp2_with (first | (refine wpList_appi rfl (.tmp 59) (.tmp 63) rfl w.heap.size lv (lostL c E0 (Kd.take i)) rfl H4.out.2.2.1 la nl lc e.n.ln rfl HLF.out.2.1 HLF.out.2.2.2 HLL.out (by have := HLF.out.2.2.1; omega) H4.out.2.2.2.2.size ?_))
            intro lv' w5 hl5 hg5 hv5
            have H5 : Hid (CA w5 t M c (tkL c E0 (Kd.take i)) ∧ AL w5 w.heap.size av (asksL c E0 (Kd.take i)) ∧ IL w5 w.heap.size lv' (lostL c E0 (Kd.take i) ++ e.n.ln) ∧ KL w5 w.heap.size (.slice (some ⟨g, 0, none⟩) nk kc) Kd ∧ Ch (CB t M E) w w5 ∧ KeyAt w5 O7 k) := by
              have k5 := Ch.ofGrown hg5
              have hcl := IL.cells H4.out.2.2.1
              refine ⟨H4.out.1.ch k5 (fun q hq e0 => ?_), H4.out.2.1.ch k5 (fun g hg e0 => ?_), hl5, H4.out.2.2.2.1.ch k5 (fun g hg e0 => ?_), H4.out.2.2.2.2.trans k5 (fun q h1 h2 => by have := (hcl q h2).1; omega), HK4.out.ch k5 (fun e0 => ?_)⟩
              · have h1 := (hcl q e0).1
                have h2 := HC.out.1.tlt q (HCE.out q (tkL_cb q hq))
                omega
              · obtain ⟨_, _, cc, hcc⟩ := hcl g e0
                obtain ⟨_, _, dd, hdd⟩ := H4.out.2.1.cells g hg
                rw [hcc] at hdd
                simp only [Option.some.injEq, Obj.cells.injEq] at hdd
                exact absurd hdd.2.1 (by decide)
              · obtain ⟨_, _, cc, hcc⟩ := hcl g e0
                obtain ⟨_, _, dd, hdd⟩ := H4.out.2.2.2.1.cells g hg
                rw [hcc] at hdd
                simp only [Option.some.injEq, Obj.cells.injEq] at hdd
                exact absurd hdd.2.1 (by decide)
              · obtain ⟨_, _, cc, hcc⟩ := hcl O7 e0
                have h1 := HK4.out
                unfold KeyAt at h1
                rw [hcc] at h1
                simp only [Option.some.injEq, Obj.cells.injEq] at h1
                exact absurd h1.2.1 (by decide)
            clear hl5 hg5 hv5 H4 HK4 c9
            obtain ⟨kl, hkl⟩ := kv_key k HKW.out
            have HKL : Hid (keyOf Try.prog 98 (.agg (kC k)) = some kl) := hkl
            clear hkl
            go_upto_region 11 with fail
            obtain ⟨Dk, hDk⟩ := H5.out.1.ma
            refine MixH.start (fun A => A.cell? ⟨t, 5, none⟩ = some (.map (some M)) ∧ KeyAt A O7 k) (by kernel_rfl) ?_
            obtain ⟨wA, hwA⟩ : ∃ wA, wA = w5.drew := ⟨_, rfl⟩
            have bdr : Below w5.heap.size w5 wA := by rw [hwA]; exact (Below.refl _ _).drew
            have HTA : Hid (CA wA t M c (tkL c E0 (Kd.take i)) ∧ MA wA M Dk ((tkL c E0 (Kd.take i)).map EV.kp) ∧ AL wA w.heap.size av (asksL c E0 (Kd.take i)) ∧ IL wA w.heap.size lv' (lostL c E0 (Kd.take i) ++ e.n.ln) ∧ KL wA w.heap.size (.slice (some ⟨g, 0, none⟩) nk kc) Kd ∧ Ch (CB t M E) w wA) := ⟨H5.out.1.below bdr, hDk.below bdr, H5.out.2.1.below bdr, IL.below H5.out.2.2.1 bdr, H5.out.2.2.2.1.below bdr, H5.out.2.2.2.2.1.trans (Ch.ofBelow (S := fun _ => False) bdr) (fun _ _ h => h.elim)⟩
            have hS : wA.cell? ⟨t, 5, none⟩ = some (.map (some M)) ∧ KeyAt wA O7 k := ⟨HTA.out.1.cb.mp, H5.out.2.2.2.2.2.below bdr⟩
            rw [← hwA]
            clear hwA bdr hDk H5
            refine MixH.takes [true, true, true] 3 (by kernel_rfl) (by kernel_rfl) (by decide) (by kernel_rfl) hS (fun K hK => ?_)
            simp only [Mix.pick]
            repeat (go_big_quiet_step (fail))
            refine wpQuiet_nil (hK _ ?_)
            clear hK K
            refine MixH.take 2 3 _ (.map (some M)) rfl (by kernel_rfl) (by kernel_rfl) (by kernel_rfl) (by kernel_rfl) (yields_map (.tmp 67) rfl ⟨t, 5, none⟩ (.map (some M)) rfl rfl (fun A hA => hA.1)) hS (fun a' ha => ?_)
            simp only [Act.put, List.setIfInBounds_toArray, List.set_cons_succ, List.set_cons_zero] at ha
            subst ha
            refine MixH.take 1 4 _ (.agg (kC k)) rfl (by kernel_rfl) (by kernel_rfl) (by kernel_rfl) (by kernel_rfl) (yields_key (.tmp 7) rfl O7 0 k rfl rfl (fun A hA => hA.2.all)) hS (fun a' ha => ?_)
            simp only [Act.put, List.setIfInBounds_toArray, List.set_cons_succ, List.set_cons_zero] at ha
            subst ha
            refine MixH.one [false, false, false, false, false, true] 0 5 _ rfl rfl (by kernel_rfl) (by kernel_rfl) (fun K hK => ?_)
            simp only [Mix.pick]
            refine wpList_delete_own _ rfl (.tmp 68) (.tmp 69) 100 98 rfl 99 lawR Try.underlying100 anyE M (tkL c E0 (Kd.take i)).length Dk rfl HTA.out.2.1.mo' (.agg (kC k)) kl rfl HKL.out ?_
            intro wE hown hgr
            have kE : Ch (fun q => q = M) wA wE := ch_turned hgr
            have HEND : Hid (CA wE t M c (tkL c E0 (Kd.take i ++ [k])) ∧ AL wE w.heap.size av (asksL c E0 (Kd.take i)) ∧ IL wE w.heap.size lv' (lostL c E0 (Kd.take i) ++ e.n.ln) ∧ KL wE w.heap.size (.slice (some ⟨g, 0, none⟩) nk kc) Kd ∧ Ch (CB t M E) w wE) := by
              have h0 := HTA.out
              obtain ⟨es, ck, hM⟩ := h0.1.mblk
              refine ⟨?_, h0.2.2.1.ch kE (fun g hg e0 => ?_), h0.2.2.2.1.ch kE (fun g hg e0 => ?_), h0.2.2.2.2.1.ch kE (fun g hg e0 => ?_), h0.2.2.2.2.2.trans kE (fun q _ h => .inr (.inl h))⟩
              · rw [← tkL_gone HD0.out HFE.out HNK.out (Int.not_lt.2 HTR.out)]
                exact h0.1.gone k kl HKL.out Dk h0.2.1 (by rw [List.length_map]; exact hown) kE
              · have e1 : g = M := e0
                obtain ⟨_, _, cc, hcc⟩ := h0.2.2.1.cells g hg
                rw [e1, hM] at hcc; cases hcc
              · have e1 : g = M := e0
                obtain ⟨_, _, cc, hcc⟩ := h0.2.2.2.1.cells g hg
                rw [e1, hM] at hcc; cases hcc
              · have e1 : g = M := e0
                obtain ⟨_, _, cc, hcc⟩ := h0.2.2.2.2.1.cells g hg
                rw [e1, hM] at hcc; cases hcc
            replace hS : wE.cell? ⟨t, 5, none⟩ = some (.map (some M)) ∧ KeyAt wE O7 k := ⟨HEND.out.1.cb.mp, hS.2.ch kE (fun e0 => by
              have e1 : O7 = M := e0
              obtain ⟨es, ck, hM⟩ := HTA.out.1.mblk
              have h1 := hS.2
              unfold KeyAt at h1
              rw [e1, hM] at h1
              cases h1)⟩
            clear hown hgr kE
            go_wp2
            refine ⟨rfl, hK _ _ hS ?_⟩
            clear hK K
            refine MixH.done (by kernel_rfl) ?_
            clear hS
            go_wp2_with fail
            go_roundw
            case rel => exact ⟨av, lv', i + 1, by simp, by have := HTK.out.2; omega, ⟨rfl, rfl⟩, by rw [HTK.out.1, HAS.out.1, HAS.out.2]; exact HEND⟩
            case measure => have := HTK.out.2; simp [intOf]; omega
    · have k1 : ¬ (i : Int) < (nk : Int) := by omega
      have hin : i = nk := by omega
      have HEND : Hid (AL wr w.heap.size av (asksL c (E.map (ag1 c)) Kd) ∧ IL wr w.heap.size lv (lostL c (E.map (ag1 c)) Kd) ∧ CA wr t M c (E.filterMap (tickE c)) ∧ Ch (CB t M E) w wr) := by
        have h1 := HR.out
        rw [List.take_of_length_le (by rw [HK.out.1, hin]; exact Nat.le_refl _)] at h1
        rw [← tkL_end HC.out.2.2.2.2.2 HK.out.2.1, ← HK.out.2.2.2.2.2]
        exact ⟨h1.2.1, h1.2.2.1, h1.1, h1.2.2.2.2⟩
      obtain ⟨aa, ac, haf⟩ := HR.out.2.1.form
      obtain ⟨la, lc, hlf⟩ := IL.form HR.out.2.2.1
      obtain ⟨na, hna⟩ : ∃ na, na = (asksL c E0 (Kd.take i)).length := ⟨_, rfl⟩
      obtain ⟨nl, hnl⟩ : ∃ nl, nl = (lostL c E0 (Kd.take i)).length := ⟨_, rfl⟩
      rw [← hna] at haf
      rw [← hnl] at hlf
      subst haf hlf
      clear hlt hin hna hnl
      go_wp2_with fail
      go_ret2
      exact ⟨_, _, rfl, Kd, HK.out.2.1, HK.out.2.2.1, HEND.out.1, HEND.out.2.1, HEND.out.2.2.1, HEND.out.2.2.2⟩
end Go.Proofs.Ytnpipngiehohgaa
