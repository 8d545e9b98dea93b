/-
  Layer 15: All.
-/
import Derived.Test.YtnpipngiehohgaaNgTick
namespace Go.Proofs.Ytnpipngiehohgaa
open Go.RowKit Go.Maps

theorem own_setCells {e : TypeId} {sz g n cap base : Nat} : ∀ (vs : List Value) (o : Nat) (w : World) (xs : List Value), w.ownsRow base e sz (.slice (some ⟨g, 0, none⟩) n cap) n xs → o + vs.length ≤ xs.length → (w.setCells g o vs).ownsRow base e sz (.slice (some ⟨g, 0, none⟩) n cap) n (xs.take o ++ (vs ++ xs.drop (o + vs.length)))
  | [], o, w, xs, h, _ => by simpa [World.setCells] using h
  | v :: vs, o, w, xs, h, hm => by
    simp only [List.length_cons] at hm
    have h1 := own_setCells vs (o + 1) _ _ (h.stored o v).1 (by rw [List.length_set]; omega)
    have e1 : (w.setCells g o (v :: vs)) = (w.setCell ⟨g, o, none⟩ v).setCells g (o + 1) vs := rfl
    rw [e1]
    have e2 : (xs.set o v).take (o + 1) ++ (vs ++ (xs.set o v).drop (o + 1 + vs.length)) = xs.take o ++ (v :: vs ++ xs.drop (o + (v :: vs).length)) := by
      rw [List.drop_set_of_lt (by omega), List.take_add_one, List.take_set_of_le (Nat.le_refl _), List.getElem?_set_self (by omega), show o + 1 + vs.length = o + (v :: vs).length from by simp; omega]
      simp
    rw [← e2]
    exact h1
theorem ch_setCells (w : World) (g : Nat) : ∀ (vs : List Value) (o : Nat), Ch (fun q => q = g) w (w.setCells g o vs) := by
  intro vs
  suffices h : ∀ (vs : List Value) (o : Nat) (w' : World), Ch (fun q => q = g) w w' → Ch (fun q => q = g) w (w'.setCells g o vs) from fun o => h vs o w (Ch.refl _ _)
  intro vs
  induction vs with
  | nil => intro o w' h; exact h
  | cons v vs ih => intro o w' h; exact ih (o + 1) _ (h.set _ _ rfl)
/-- a row of n neighbours, of which the first are L -/
def PN (w : World) (base g n : Nat) (L : List NB) : Prop := ∃ xs, w.ownsRow base 48 28 (.slice (some ⟨g, 0, none⟩) n n) n xs ∧ xs.take (L.length * 28) = ncs L ∧ L.length ≤ n
theorem PN.ch {S : Nat → Prop} {a b : World} {base g n : Nat} {L : List NB} (h : PN a base g n L) (k : Ch S a b) (hS : ¬ S g) : PN b base g n L := by
  obtain ⟨xs, h1, h2, h3⟩ := h
  exact ⟨xs, k.owns h1 (fun q hq => by simp [Value.ownBlock] at hq; subst hq; exact hS), h2, h3⟩
theorem PN.below {a b : World} {base g n : Nat} {L : List NB} (h : PN a base g n L) (k : Below a.heap.size a b) : PN b base g n L := h.ch (Ch.ofBelow (S := fun _ => False) k) id
theorem PN.blk {w : World} {base g n : Nat} {L : List NB} (h : PN w base g n L) : base ≤ g ∧ ∃ c, w.heap[g]? = some (.cells c 48 (0, 0)) := by
  obtain ⟨xs, h1, _⟩ := h
  rcases h1.2 with ⟨e, _⟩ | ⟨g', cap, cur, e, hb, hh, _⟩
  · cases e
  · simp only [Value.slice.injEq, Option.some.injEq, Addr.mk.injEq, and_true, true_and] at e
    rw [e.1]
    exact ⟨hb, cur, hh⟩
theorem PN.all {w : World} {base g n : Nat} {L : List NB} (h : PN w base g n L) (hn : L.length = n) : NL w base (.slice (some ⟨g, 0, none⟩) n n) L := by
  obtain ⟨xs, h1, h2, _⟩ := h
  have hl := h1.1
  rw [List.take_of_length_le (by rw [hl, hn]; exact Nat.le_refl _)] at h2
  show w.ownsRow base 48 28 _ L.length (ncs L)
  rw [← h2, hn]
  exact h1
theorem wpList_set_nb {ops : Array Oper} {rest : List Oper} {o : Oper} {a : Act} {w : World} {Q : Exit → Act → World → Prop} (x y : Operand) (ho : o.op = .store 48 x y) (hd : o.dst = none) (base g n : Nat) (L : List NB) (v : NB) (hx : a.eval x = .pointer (some ⟨g, L.length * 28, none⟩)) (hy : a.eval y = .agg (nbC v)) (h : PN w base g n L) (hl : L.length < n)
    (hw : Region.wanted o (yielded ops a.tmps) = true) (hh : ∀ w', PN w' base g n (L ++ [v]) → Ch (fun q => q = g) w w' → wpList Try.prog ops Q rest a w') : wpList Try.prog ops Q (o :: rest) a w := by
  obtain ⟨xs, h1, h2, h3⟩ := h
  have hxl := h1.1
  have ht : w.there g (L.length * 28) (nbC v).size := fun j hj => by
    have hj' : j < 28 := hj
    rcases h1.2 with ⟨e, _⟩ | ⟨g', cap, cur, e, hb, hg, hnc, hcm, hcs, htk⟩
    · cases e
    · simp only [Value.slice.injEq, Option.some.injEq, Addr.mk.injEq, and_true, true_and] at e
      obtain ⟨rfl, rfl⟩ := e
      refine ⟨?_, by simp [World.frozen?, hg]⟩
      simp only [World.cell?, hg]
      rw [Array.getElem?_eq_getElem (by rw [hcs]; omega)]
      rfl
  refine wpList_step fun K hK => ?_
  rw [if_pos hw]
  refine wp_store_mid 48 x y ho g (L.length * 28) (nbC v) hx hy ht Try.size_nbr (by simp [nbC, Value.oneCell']) (hK _ _ ?_)
  rw [hd]
  refine hh _ ⟨_, own_setCells (nbC v).toList (L.length * 28) w xs h1 (by rw [nC_len, hxl]; omega), ?_, by rw [List.length_append]; simp; omega⟩ (ch_setCells w g _ _)
  rw [ncs_app, ncs_one, h2, nC_len, List.length_append]
  have e1 : (ncs L).length = L.length * 28 := ncs_len L
  rw [show (L.length + [v].length) * 28 = (ncs L).length + 28 by rw [e1]; simp; omega, List.take_length_add_append, List.take_append_of_le_length (by rw [nC_len]; exact Nat.le_refl _), List.take_of_length_le (by rw [nC_len]; exact Nat.le_refl _)]
theorem wpList_make_nb {ops : Array Oper} {rest : List Oper} {o : Oper} {a : Act} {w : World} {Q : Exit → Act → World → Prop} (hg : o.guard = none) (l c : Operand) (ho : o.op = .makeSlice 45 l c) (base n : Nat) (hn : n ≤ 1024) (hl : a.eval l = .int .i64 (n : Int)) (hc : a.eval c = .int .i64 (n : Int)) (hb : base ≤ w.heap.size)
    (h : ∀ w', PN w' base w.heap.size n [] → Below w.heap.size w w' → wpList Try.prog ops Q rest (a.put o.dst (.slice (some ⟨w.heap.size, 0, none⟩) n n)) w') : wpList Try.prog ops Q (o :: rest) a w := by
  obtain ⟨i1, z1, gi, gz0, gz1, gz2, gz3⟩ := Try.infoN
  refine wpList_make_full w hg l c 45 ho base 48 i1 z1 28 Try.underlying45 gi gz0 gz1 .i64 .i64 (n : Int) (n : Int) n hl hc rfl rfl (Nat.le_trans (Nat.mul_le_mul gz3 hn) (by decide)) (by unfold maxLen; omega) hb ?_
  intro w' h1 h2
  exact h w' ⟨_, h1, by simp [ncs], Nat.zero_le _⟩ ⟨h2.os, h2.tape, h2.output, h2.size, fun k hk => h2.block k hk (by simp)⟩
theorem nbr_apart {A : World} {t M B : Nat} {c : CF} {E : List EV} {cc : Array Value} (h : CA A t M c E) (hm : A.heap[B]? = some (.cells cc 48 (0, 0))) : ∀ q, CB t M E q → q ≠ B := fun q hq e => by
  rw [← e] at hm
  rcases hq with rfl | rfl | ⟨e0, he0, rfl | h0⟩
  · have h3 := h.cb; unfold CchAt at h3; rw [hm] at h3; simp only [Option.some.injEq, Obj.cells.injEq] at h3; exact absurd h3.2.1 (by decide)
  · obtain ⟨es, ck, h3⟩ := h.mblk; rw [hm] at h3; cases h3
  · have h3 := h.en e0 he0; unfold EntAt at h3; rw [hm] at h3; simp only [Option.some.injEq, Obj.cells.injEq] at h3; exact absurd h3.2.1 (by decide)
  · obtain ⟨dd, h3⟩ := (h.li e0 he0).kind q h0; rw [hm] at h3; simp only [Option.some.injEq, Obj.cells.injEq] at h3; exact absurd h3.2.1 (by decide)
theorem perm_lift {α β : Type} {f : α → β} {K M : List β} (h : K.Perm M) : ∀ E : List α, M = E.map f → ∃ S : List α, S.Perm E ∧ S.map f = K := by
  induction h with
  | nil =>
    intro E hE
    cases E with
    | nil => exact ⟨[], List.Perm.refl _, rfl⟩
    | cons a l => cases hE
  | cons x _ ih =>
    intro E hE
    cases E with
    | nil => cases hE
    | cons e E =>
      simp only [List.map_cons, List.cons.injEq] at hE
      obtain ⟨S, h1, h2⟩ := ih E hE.2
      exact ⟨e :: S, h1.cons e, by rw [List.map_cons, h2, hE.1]⟩
  | swap x y l =>
    intro E hE
    match E, hE with
    | [], hE => cases hE
    | [_], hE => simp at hE
    | e1 :: e2 :: E, hE =>
      simp only [List.map_cons, List.cons.injEq] at hE
      exact ⟨e2 :: e1 :: E, List.Perm.swap _ _ _, by simp only [List.map_cons, hE.1, hE.2.1, hE.2.2]⟩
  | trans _ _ ih1 ih2 =>
    intro E hE
    obtain ⟨S, h1, h2⟩ := ih2 E hE
    obtain ⟨S', h3, h4⟩ := ih1 S h2.symm
    exact ⟨S', h3.trans h1, h4⟩
/-- the entries in their order -/
def Srt (E S : List EV) : Prop := S.Perm E ∧ S.Pairwise (fun a b => lt3 a.n.k b.n.k)
theorem srt_of {E : List EV} {Kq : List KV} (d : Dj E) (hw : ∀ e ∈ E, e.n.k.Wf) (hp : Kq.Perm (E.map (fun e => e.n.k))) (hs : Kq.Pairwise (fun a b => 0 ≤ ordV b a)) : ∃ S, Srt E S ∧ S.map (fun e => e.n.k) = Kq := by
  obtain ⟨S, h1, h2⟩ := perm_lift hp E rfl
  refine ⟨S, ⟨h1, ?_⟩, h2⟩
  rw [← h2, List.pairwise_map] at hs
  have d2 : Dj S := (h1.pairwise_iff (fun {a b} h => by rw [eqP_comm]; exact h)).2 d
  refine List.Pairwise.imp_of_mem ?_ (d2.and hs)
  rintro a b ha hb ⟨h3, h4⟩
  rcases tri a.n.k b.n.k (hw a (h1.mem_iff.1 ha)) (hw b (h1.mem_iff.1 hb)) with e | e | e
  · exact e
  · have := (ord_lt b.n.k a.n.k).2 e
    omega
  · rw [h3] at e; cases e
set_option maxHeartbeats 12800000 in
set_option maxRecDepth 100000 in
theorem all_any (t M : Nat) (c : CF) (E : List EV) (w : World) (h : CA w t M c E) (hl : E.length ≤ 1024) : Calls Try.prog 18 #[.pointer (some ⟨t, 0, none⟩)] w fun r w' => ∃ v, r = .returned v ∧ ∃ S, Srt E S ∧ NL w' w.heap.size v (S.map (fun e => e.n.nb)) ∧ Below w.heap.size w w' := by
  obtain ⟨D, hD⟩ := h.ma
  have hsz : Maps.size D = E.length := by have := hD.sz; rw [List.length_map] at this; exact this
  have HC : Hid (CA w t M c E ∧ MA w M D (E.map EV.kp) ∧ E.length ≤ 1024 ∧ Dj E ∧ Maps.size D = E.length) := ⟨h, hD, hl, h.dj, hsz⟩
  have cm := h.cb.mp
  obtain ⟨i0, z0, hi, hz0, hz1, hz2, hz3⟩ := Try.infoK
  have HI : Hid (Try.prog.info? 98 = some i0 ∧ i0.zero = some z0 ∧ i0.size = 18 ∧ i0.bytes ≤ 1000) := ⟨hi, hz0, hz1, hz3⟩
  have HB2 : Hid (i0.bytes * Maps.size D ≤ 281474976710656 ∧ Maps.size D ≤ maxLen) := ⟨Nat.le_trans (Nat.mul_le_mul hz3 (by rw [hsz]; exact hl)) (by decide), by rw [hsz]; unfold maxLen; omega⟩
  clear hi hz0 hz1 hz2 hz3 h hD hl hsz
  go_enter Try.func18, Try.ntmps18
  go_wp2_with (first | (at_len; refine wpList_len_own _ rfl (.tmp 11) 100 rfl 98 99 Try.underlying100 anyE M E.length D rfl HC.out.2.1.mo' ?_) | (refine wpList_make_own _ rfl _ (.tmp 12) 111 rfl w.heap.size 98 i0 z0 18 Try.underlying111 HI.out.1 HI.out.2.1 HI.out.2.2.1 .i64 .i64 (Maps.size D : Nat) (Maps.size D) rfl rfl rfl HB2.out.1 HB2.out.2 (Nat.le_refl _) ?_))
  intro w1 ho1 hg1
  have b1 : Below w.heap.size w w1 := ⟨hg1.os, hg1.tape, hg1.output, hg1.size, fun k hk => hg1.block k hk (by simp)⟩
  have H1 : Hid (CA w1 t M c E ∧ MA w1 M D (E.map EV.kp) ∧ KL w1 w.heap.size (.slice (some ⟨w.heap.size, 0, none⟩) 0 (Maps.size D)) [] ∧ Below w.heap.size w w1) := ⟨HC.out.1.below b1, HC.out.2.1.below b1, ho1, b1⟩
  have c1 := H1.out.1.cb.mp
  clear ho1 hg1 b1 cm
  go_wp2_with (first | (refine wpList_range_own _ rfl (.tmp 17) 100 rfl 98 99 lawR Try.underlying100 anyE M E.length D rfl H1.out.2.1.mo' ?_))
  intro w2 hrg2 hg2 hs2
  have b2 : Below w1.heap.size w1 w2 := ⟨hg2.os, hg2.tape, hg2.output, hg2.size, fun k hk => hg2.block k hk (by simp)⟩
  obtain ⟨r, hr⟩ : ∃ r, r = w1.heap.size := ⟨_, rfl⟩
  rw [← hr] at hrg2 ⊢
  have HRW : Hid (w.heap.size ≤ r) := by show w.heap.size ≤ r; rw [hr]; exact H1.out.2.2.2.size
  have HR0 : Hid (RS w2 M D E r [] (Maps.has D) (Maps.size D) ∧ CA w2 t M c E ∧ Below w.heap.size w w2 ∧ KL w2 w.heap.size (.slice (some ⟨w.heap.size, 0, none⟩) 0 (Maps.size D)) (([] : List EV).map (fun e => e.n.k)) ∧ ∃ g cc, (Value.slice (some ⟨w.heap.size, 0, none⟩) 0 (Maps.size D)) = .slice (some ⟨g, 0, none⟩) ([] : List EV).length cc) := ⟨RS.start (H1.out.2.1.below b2) hrg2, H1.out.1.below b2, bthen H1.out.2.2.2 b2, H1.out.2.2.1.below b2, _, _, rfl⟩
  clear hrg2 hg2 hs2 b2 hr c1 H1
  go_wp2_with fail
  go_loopw [3] (fun l wr => ∃ (v : Value) (L : List EV) (left : Lit → Bool) (cnt : Nat), v = l ∧ Hid (RS wr M D E r L left cnt ∧ CA wr t M c E ∧ Below w.heap.size w wr ∧ KL wr w.heap.size v (L.map (fun e => e.n.k)) ∧ ∃ g cc, v = .slice (some ⟨g, 0, none⟩) L.length cc)) (fun _ wr => wr.rangeLeft M r)
  case atStart => exact ⟨_, [], _, _, rfl, HR0⟩
  case round =>
    obtain ⟨v, L, left, cnt, rfl, HR⟩ := hrel
    clear HR0
    go_wp2_with (first | (refine wpList_next_ranges (α := Value) (β := Value) _ rfl (.tmp 18) rfl 98 lawR anyE id id (fun k _ _ => ⟨k, rfl⟩) (fun v _ _ => ⟨v, rfl⟩) M r E.length D left cnt rfl HR.out.1.rg ?_ ?_))
    · intro hc0 hl0
      have hp := HR.out.1.done hl0
      obtain ⟨kg, kc, hvf⟩ := HR.out.2.2.2.2
      have hle : L.length = E.length := hp.length_eq
      rw [hle] at hvf
      have QS : Hid _ := sort_any wr w.heap.size v (L.map (fun e => e.n.k)) HR.out.2.2.2.1 (by rw [List.length_map, hle]; exact HC.out.2.2.1)
      have HP : Hid ((L.map (fun e => e.n.k)).Perm (E.map (fun e => e.n.k))) := hp.map _
      obtain ⟨n, hn⟩ : ∃ n, n = E.length := ⟨_, rfl⟩
      rw [← hn] at hvf
      have HN : Hid (E.length = n ∧ n ≤ 1024) := ⟨hn.symm, by rw [hn]; exact HC.out.2.2.1⟩
      subst hvf
      clear hc0 hl0 hp hle hn
      go_wp2_with fail
      refine Calls.mono QS.out ?_
      rintro e w3 ⟨rfl, Kq, hp, hso, hKL, kk⟩
      obtain ⟨S, hS, hSK⟩ := srt_of HC.out.2.2.2.1 (HC.out.1.wf) (hp.trans HP.out) hso
      have H3 : Hid (CA w3 t M c E ∧ Below w.heap.size w w3 ∧ KL w3 w.heap.size (.slice (some ⟨kg, 0, none⟩) n kc) Kq) := by
        have hcl := HR.out.2.2.2.1.cells
        refine ⟨HR.out.2.1.ch kk (fun q hq e0 => ?_), HR.out.2.2.1.trans (kk.below (fun q e => (hcl q e).1) HR.out.2.2.1.size), hKL⟩
        obtain ⟨_, _, cc, hcc⟩ := hcl q e0
        exact key_apart HR.out.2.1 hcc q hq rfl
      have HS : Hid (Srt E S ∧ S.map (fun e => e.n.k) = Kq ∧ S.length = n) := ⟨hS, hSK, by rw [hS.1.length_eq]; exact HN.out.1⟩
      clear hp hso hKL kk QS hS hSK
      go_wp2_with (first | (refine wpList_make_nb rfl (.tmp 30) (.tmp 30) rfl w.heap.size n HN.out.2 rfl rfl H3.out.2.1.size ?_))
      intro w4 hp4 b4
      obtain ⟨g, hg⟩ : ∃ g, g = w3.heap.size := ⟨_, rfl⟩
      rw [← hg] at hp4 ⊢
      have H4 : Hid (CA w4 t M c E ∧ Below w.heap.size w w4 ∧ PN w4 w.heap.size g n [] ∧ KL w4 w.heap.size (.slice (some ⟨kg, 0, none⟩) n kc) Kq) := ⟨H3.out.1.below b4, bthen H3.out.2.1 b4, hp4, H3.out.2.2.below b4⟩
      clear hp4 b4 hg H3
      go_wp2_with fail
      go_loopw [34] (fun ix wx => ∃ i : Nat, ix = .int .i64 i ∧ i ≤ n ∧ Hid (CA wx t M c E ∧ Below w.heap.size w wx ∧ PN wx w.heap.size g n ((S.take i).map (fun e => e.n.nb)) ∧ KL wx w.heap.size (.slice (some ⟨kg, 0, none⟩) n kc) Kq)) (fun ix _ => n - (intOf ix).toNat)
      case atStart => exact ⟨0, rfl, Nat.zero_le _, H4⟩
      case round =>
        obtain ⟨i, rfl, hi, HRx⟩ := hrel
        clear H4
        by_cases hlt : i < n
        · have k0 : (0 : Int) ≤ (i : Int) := by omega
          have k1 : (i : Int) < (n : Int) := by omega
          have k2 : ((i : Int)).toNat = i := by omega
          have wi : IntKind.i64.wrap ((i : Int) + 1) = (i : Int) + 1 := by have := HN.out.2; rw [IntKind.wrap_i64]; omega
          obtain ⟨s, hs⟩ : ∃ s, S[i]? = some s := ⟨_, List.getElem?_eq_getElem (by rw [HS.out.2.2]; exact hlt)⟩
          have hkq : Kq[i]? = some s.n.k := by rw [← HS.out.2.1, List.getElem?_map, hs]; rfl
          obtain ⟨kg', cap', hvg, hg1, hg2, hrg⟩ := HRx.out.2.2.2.at i s.n.k hkq
          simp only [Value.slice.injEq, Option.some.injEq, Addr.mk.injEq, and_true] at hvg
          have HRG : Hid (wr.rangeAt kg (i * 18) (kC s.n.k).toList) := by rw [hvg.1]; exact hrg
          have HSE : Hid (s ∈ E) := HS.out.1.1.mem_iff.1 (List.mem_of_getElem? hs)
          have HSW : Hid (s.n.k.Wf) := HC.out.1.wf s HSE.out
          have HPV : Hid (ptE (fE E s.n.k) = .pointer (some ⟨s.P, 0, none⟩)) := by show _ = _; rw [fE_mem HC.out.2.2.2.1 HSE.out (eqP_refl _)]; rfl
          have HTL : Hid (∀ A, CA A t M c E → Calls Try.prog 56 #[.pointer (some ⟨s.P, 0, none⟩), .agg (kC s.n.k)] A fun r w' => r = .returned (.agg (nbC s.n.nb)) ∧ Below A.heap.size A w') := fun A hA => by
            obtain ⟨la, lc, hlv⟩ := (hA.li s HSE.out).form
            exact told_any s s.n.k A (hA.en s HSE.out) la s.n.ln.length lc hlv
          obtain ⟨L2, hL2⟩ : ∃ L2, L2 = (S.take i).map (fun e => e.n.nb) := ⟨_, rfl⟩
          rw [← hL2] at HRx
          have HLN : Hid (L2.length = i ∧ L2.length < n) := by
            have h1 : L2.length = i := by rw [hL2, List.length_map, List.length_take, HS.out.2.2]; omega
            exact ⟨h1, by omega⟩
          have HTK : Hid ((S.take (i + 1)).map (fun e => e.n.nb) = L2 ++ [s.n.nb] ∧ i < n) := ⟨by rw [List.take_add_one, hs, hL2]; simp, hlt⟩
          clear hs hkq hvg hg1 hg2 hrg hlt hi hL2
          go_wp2_with (first | (refine wpList_mid_key (.tmp 37) rfl kg (i * 18) s.n.k rfl HRG.out rfl ?_) | (refine wpList_alloc_key rfl rfl ?_) | (refine wpList_store_key (.tmp 7) (.tmp 38) rfl rfl wr.heap.size kz s.n.k rfl rfl (key_new wr kz) rfl ?_))
          intro w5 hR5 k5
          have bz : Below wr.heap.size wr (wr.alloc (.cells (kC kz) 98)) := (Below.refl _ _).alloc (Nat.le_refl _) _
          have b5 : Below wr.heap.size wr w5 := bz.trans (k5.below (fun q e => by have e' : q = wr.heap.size := e; omega) bz.size)
          obtain ⟨O7, hO7⟩ : ∃ O, O = wr.heap.size := ⟨_, rfl⟩
          rw [← hO7] at hR5 ⊢
          have H5 : Hid (KeyAt w5 O7 s.n.k ∧ CA w5 t M c E ∧ Below w.heap.size w w5 ∧ PN w5 w.heap.size g n L2 ∧ KL w5 w.heap.size (.slice (some ⟨kg, 0, none⟩) n kc) Kq) := ⟨hR5, HRx.out.1.below b5, bthen HRx.out.2.1 b5, HRx.out.2.2.1.below b5, HRx.out.2.2.2.below b5⟩
          have HOF : Hid (L2.length * 28 = i * 28) := by show _ = _; rw [HLN.out.1]
          clear hR5 k5 bz b5 hO7 HRG
          go_upto_region 11 with fail
          refine MixH.start (fun A => KeyAt A O7 s.n.k ∧ CA A t M c E) (by kernel_rfl) ?_
          obtain ⟨wA, hwA⟩ : ∃ wA, wA = w5.drew := ⟨_, rfl⟩
          have bdr : Below w5.heap.size w5 wA := by rw [hwA]; exact (Below.refl _ _).drew
          have hS : KeyAt wA O7 s.n.k ∧ CA wA t M c E := ⟨H5.out.1.below bdr, H5.out.2.1.below bdr⟩
          have HA : Hid (Below w.heap.size w wA ∧ PN wA w.heap.size g n L2 ∧ KL wA w.heap.size (.slice (some ⟨kg, 0, none⟩) n kc) Kq) := ⟨bthen H5.out.2.2.1 bdr, H5.out.2.2.2.1.below bdr, H5.out.2.2.2.2.below bdr⟩
          rw [← hwA]
          clear hwA bdr H5
          refine MixH.takes [true, true, true, true, true] 7 (by kernel_rfl) (by kernel_rfl) (by decide) (by kernel_rfl) hS (fun K hK => ?_)
          simp only [Mix.pick]
          repeat (go_big_quiet_step (fail))
          refine wpQuiet_nil (hK _ ?_)
          clear hK K
          refine MixH.take 6 5 _ (.map (some M)) rfl (by kernel_rfl) (by kernel_rfl) (by kernel_rfl) (by kernel_rfl) (yields_map (.tmp 43) rfl ⟨t, 5, none⟩ (.map (some M)) rfl rfl (fun A hA => hA.2.cb.mp)) hS (fun a' ha => ?_)
          simp only [Act.put, List.setIfInBounds_toArray, List.set_cons_succ, List.set_cons_zero] at ha
          subst ha
          refine MixH.take 5 6 _ (.agg (kC s.n.k)) rfl (by kernel_rfl) (by kernel_rfl) (by kernel_rfl) (by kernel_rfl) (yields_key (.tmp 7) rfl O7 0 s.n.k rfl rfl (fun A hA => hA.1.all)) hS (fun a' ha => ?_)
          simp only [Act.put, List.setIfInBounds_toArray, List.set_cons_succ, List.set_cons_zero] at ha
          subst ha
          refine MixH.take 4 8 _ (.agg (kC s.n.k)) rfl (by kernel_rfl) (by kernel_rfl) (by kernel_rfl) (by kernel_rfl) (yields_key (.tmp 7) rfl O7 0 s.n.k rfl rfl (fun A hA => hA.1.all)) hS (fun a' ha => ?_)
          simp only [Act.put, List.setIfInBounds_toArray, List.set_cons_succ, List.set_cons_zero] at ha
          subst ha
          refine MixH.take 3 7 _ (.pointer (some ⟨s.P, 0, none⟩)) rfl (by kernel_rfl) (by kernel_rfl) (by kernel_rfl) (by kernel_rfl) (yields_look (.tmp 44) (.tmp 45) rfl t M c E s.n.k HSW.out rfl rfl (.pointer (some ⟨s.P, 0, none⟩)) HPV.out rfl (fun A hA => hA.2)) hS (fun a' ha => ?_)
          simp only [Act.put, List.setIfInBounds_toArray, List.set_cons_succ, List.set_cons_zero] at ha
          subst ha
          refine MixH.one [false, false, false, false, false, false, false, false, false, true] 2 9 _ rfl rfl (by kernel_rfl) (by kernel_rfl) (fun K hK => ?_)
          simp only [Mix.pick]
          go_wp2_with fail
          refine Calls.mono (HTL.out wA hS.2) ?_
          rintro rr wB ⟨rfl, bB⟩
          have HB : Hid (KeyAt wB O7 s.n.k ∧ CA wB t M c E ∧ Below w.heap.size w wB ∧ PN wB w.heap.size g n L2 ∧ KL wB w.heap.size (.slice (some ⟨kg, 0, none⟩) n kc) Kq) := ⟨hS.1.below bB, hS.2.below bB, bthen HA.out.1 bB, HA.out.2.1.below bB, HA.out.2.2.below bB⟩
          replace hS : KeyAt wB O7 s.n.k ∧ CA wB t M c E := ⟨HB.out.1, HB.out.2.1⟩
          clear bB
          go_wp2_with fail
          refine ⟨rfl, hK _ _ hS ?_⟩
          clear hK K
          refine MixH.takes [false, false, false, false, false, false, false, false, false, false, true] 1 (by kernel_rfl) (by kernel_rfl) (by decide) (by kernel_rfl) hS (fun K hK => ?_)
          simp only [Mix.pick]
          repeat (go_big_quiet_step (fail))
          refine wpQuiet_nil (hK _ ?_)
          clear hK K
          refine MixH.one [false, false, false, false, false, false, false, false, false, false, false, true] 0 11 _ rfl rfl (by kernel_rfl) (by kernel_rfl) (fun K hK => ?_)
          simp only [Mix.pick]
          refine wpList_set_nb (.tmp 49) (.tmp 48) rfl rfl w.heap.size g n L2 s.n.nb (by show _ = Value.pointer (some ⟨g, L2.length * 28, none⟩); rw [HOF.out]; rfl) rfl HB.out.2.2.2.1 HLN.out.2 rfl ?_
          intro wE hE kE
          have HEND : Hid (CA wE t M c E ∧ Below w.heap.size w wE ∧ PN wE w.heap.size g n (L2 ++ [s.n.nb]) ∧ KL wE w.heap.size (.slice (some ⟨kg, 0, none⟩) n kc) Kq) := by
            obtain ⟨gl, cc, hcc⟩ := HB.out.2.2.2.1.blk
            refine ⟨HB.out.2.1.ch kE (fun q hq e0 => ?_), HB.out.2.2.1.trans (kE.below (fun q hq => by have hq' : q = g := hq; omega) HB.out.2.2.1.size), hE, HB.out.2.2.2.2.ch kE (fun q hq e0 => ?_)⟩
            · have e1 : q = g := e0
              exact nbr_apart HB.out.2.1 hcc q hq e1
            · have e1 : q = g := e0
              obtain ⟨_, _, dd, hdd⟩ := HB.out.2.2.2.2.cells q hq
              rw [e1, hcc] at hdd
              simp only [Option.some.injEq, Obj.cells.injEq] at hdd
              exact absurd hdd.2.1 (by decide)
          replace hS : KeyAt wE O7 s.n.k ∧ CA wE t M c E := ⟨hS.1.ch kE (fun e0 => by
            have e1 : O7 = g := e0
            obtain ⟨gl, cc, hcc⟩ := HB.out.2.2.2.1.blk
            have h1 := hS.1
            unfold KeyAt at h1
            rw [e1, hcc] at h1
            simp only [Option.some.injEq, Obj.cells.injEq] at h1
            exact absurd h1.2.1 (by decide)), HEND.out.1⟩
          clear hE kE
          go_wp2
          refine ⟨rfl, hK _ _ hS ?_⟩
          clear hK K
          refine MixH.done (by kernel_rfl) ?_
          clear hS
          go_wp2
          go_roundw
          case rel => exact ⟨i + 1, by simp, by have := HTK.out.2; omega, by rw [HTK.out.1]; exact HEND⟩
          case measure => have := HTK.out.2; simp [intOf]; omega
        · have k1 : ¬ (i : Int) < (n : Int) := by omega
          have HZ : Hid (NL wr w.heap.size (.slice (some ⟨g, 0, none⟩) n n) (S.map (fun e => e.n.nb)) ∧ Below w.heap.size w wr) := by
            have h1 := HRx.out.2.2.1
            rw [List.take_of_length_le (by rw [HS.out.2.2]; omega)] at h1
            exact ⟨h1.all (by rw [List.length_map]; exact HS.out.2.2), HRx.out.2.1⟩
          clear hlt
          go_wp2_with fail
          go_ret
          exact ⟨_, rfl, S, HS.out.1, HZ.out.1, HZ.out.2⟩
    · intro key cv kl yd yp w3 cnt3 hkey hleft hR hat hrg3 hlt3 hg3 hs3 hen
      obtain ⟨s, hsE, hkv, hcv, hnL, hfar, hRS⟩ := HR.out.1.next (y := (yd, yp)) hkey hleft hR hat hrg3 hg3
      have hcv' : cv = .pointer (some ⟨s.P, 0, none⟩) := hcv
      have hkv' : key = .agg (kC s.n.k) := hkv
      subst hcv' hkv'
      have kg := Ch.ofGrown hg3
      have hrw := HRW.out
      have itr := ranges_it HR.out.1.rg
      have hCA : CA w3 t M c E := HR.out.2.1.ch kg (fun q hq e => by
        have e' : r = q := by have e2 : some r = some q := e; simpa using e2
        obtain ⟨_, _, _, _, hit⟩ := itr
        rw [e'] at hit
        exact iter_apart HR.out.2.1 hit q hq rfl)
      have hK3 : KL w3 w.heap.size v (L.map (fun e => e.n.k)) := HR.out.2.2.2.1.ch kg (fun g hg e => by
        have e' : r = g := by have e2 : some r = some g := e; simpa using e2
        obtain ⟨_, _, _, _, hit⟩ := itr
        obtain ⟨_, _, cc, hcc⟩ := HR.out.2.2.2.1.cells g hg
        rw [e', hcc] at hit
        cases hit)
      have hBe : Below w.heap.size w w3 := HR.out.2.2.1.trans (kg.below (fun q e => by have e2 : some r = some q := e; simp at e2; omega) HR.out.2.2.1.size)
      have HX : Hid (RS w3 M D E r (L ++ [s]) (fun z => left z && !z.sameKey kl) cnt3 ∧ CA w3 t M c E ∧ Below w.heap.size w w3 ∧ KL w3 w.heap.size v (L.map (fun e => e.n.k)) ∧ cnt3 < cnt ∧ (L.map (fun e => e.n.k)).length ≤ 100000) := ⟨hRS, hCA, hBe, hK3, hlt3, by
        have h2 := len_sub HR.out.1.dj HR.out.1.sub
        have h3 := HC.out.2.2.1
        rw [List.length_map]
        omega⟩
      obtain ⟨vg, vcc, hvf⟩ := HR.out.2.2.2.2
      have HVF : Hid (v = .slice (some ⟨vg, 0, none⟩) L.length vcc) := hvf
      clear hkv hcv hnL hfar hRS hCA hkey hleft hR hat hrg3 hlt3 hg3 hs3 kg hrw hK3 hBe hsE itr hvf
      (try simp only [id] at hen ⊢)
      go_wp2_with (first | (refine wpList_alloc_key rfl rfl ?_) | (refine wpList_store_key (.tmp 4) (.tmp 22) rfl rfl w3.heap.size kz s.n.k rfl rfl (key_new w3 kz) rfl ?_))
      intro w4 hR4 k4
      have bz : Below w3.heap.size w3 (w3.alloc (.cells (kC kz) 98)) := (Below.refl _ _).alloc (Nat.le_refl _) _
      have b4 : Below w3.heap.size w3 w4 := bz.trans (k4.below (fun q e => by have e' : q = w3.heap.size := e; omega) bz.size)
      obtain ⟨O4, hO4⟩ : ∃ O, O = w3.heap.size := ⟨_, rfl⟩
      rw [← hO4] at hR4 ⊢
      have b5 : Below w3.heap.size w3 (w4.alloc (.cells (kC s.n.k) 98)) := bthen b4 ((Below.refl _ _).alloc (Nat.le_refl _) _)
      have H4 : Hid (KeyAt w4 O4 s.n.k ∧ RS (w4.alloc (.cells (kC s.n.k) 98)) M D E r (L ++ [s]) (fun z => left z && !z.sameKey kl) cnt3 ∧ CA (w4.alloc (.cells (kC s.n.k) 98)) t M c E ∧ Below w.heap.size w (w4.alloc (.cells (kC s.n.k) 98)) ∧ KL (w4.alloc (.cells (kC s.n.k) 98)) w.heap.size v (L.map (fun e => e.n.k)) ∧ KeyAt (w4.alloc (.cells (kC s.n.k) 98)) w4.heap.size s.n.k) := ⟨hR4, HX.out.1.below b5, HX.out.2.1.below b5, bthen HX.out.2.2.1 b5, HX.out.2.2.2.1.below b5, key_new _ _⟩
      have HS : Hid (cnt3 < cnt ∧ (L.map (fun e => e.n.k)).length ≤ 100000) := HX.out.2.2.2.2
      clear hR4 k4 bz b4 b5 hen hO4 HX
      go_wp2_with (first | (refine wpList_load_key (.tmp 4) rfl O4 s.n.k rfl H4.out.1 rfl ?_) | (refine wpList_bs1k (.tmp 24) rfl s.n.k rfl rfl ?_) | (refine wpList_app1k rfl (.tmp 23) (.tmp 25) rfl w.heap.size v (L.map (fun e => e.n.k)) rfl H4.out.2.2.2.2.1 w4.heap.size s.n.k rfl H4.out.2.2.2.2.2 HS.out.2 H4.out.2.2.2.1.size ?_))
      intro v' w6 hl6 hg6 hv6
      have H6 : Hid (RS w6 M D E r (L ++ [s]) (fun z => left z && !z.sameKey kl) cnt3 ∧ CA w6 t M c E ∧ Below w.heap.size w w6 ∧ KL w6 w.heap.size v' ((L ++ [s]).map (fun e => e.n.k)) ∧ ∃ g cc, v' = .slice (some ⟨g, 0, none⟩) (L ++ [s]).length cc) := by
        have k6 := Ch.ofGrown hg6
        have hcl := H4.out.2.2.2.2.1.cells
        refine ⟨H4.out.2.1.ch k6 (fun e => ?_) (fun e => ?_), H4.out.2.2.1.ch k6 (fun q hq e => ?_), H4.out.2.2.2.1.trans (k6.below (fun q e => (hcl q e).1) H4.out.2.2.2.1.size), by rw [List.map_append]; exact hl6, ?_⟩
        · obtain ⟨_, _, cc, hcc⟩ := hcl M e
          exact key_apart H4.out.2.2.1 hcc M (.inr (.inl rfl)) rfl
        · obtain ⟨_, _, cc, hcc⟩ := hcl r e
          obtain ⟨_, _, _, _, hit⟩ := ranges_it H4.out.2.1.rg
          rw [hcc] at hit
          cases hit
        · obtain ⟨_, _, cc, hcc⟩ := hcl q e
          exact key_apart H4.out.2.2.1 hcc q hq rfl
        · rcases hl6.2 with ⟨e1, e2⟩ | ⟨g6, cap6, cur6, e1, _⟩
          · rw [List.length_append] at e2; simp at e2
          · refine ⟨g6, cap6, ?_⟩
            rw [e1]
            simp
      clear hl6 hg6 hv6
      go_wp2_with fail
      go_roundw
      case rel => exact ⟨v', L ++ [s], _, _, rfl, H6⟩
      case measure => rw [H6.out.1.rg.left_eq, HR.out.1.rg.left_eq]; exact HS.out.1
end Go.Proofs.Ytnpipngiehohgaa
