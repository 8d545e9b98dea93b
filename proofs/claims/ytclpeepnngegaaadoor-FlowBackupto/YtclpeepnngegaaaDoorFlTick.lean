/-
  Layer 17: Tick.
-/
import Derived.Test.YtclpeepnngegaaaDoorFlNew
namespace Go.Proofs.YtclpeepnngegaaaDoor
open Go.RowKit Go.Maps

theorem fm_congr {α β : Type} {f g : α → Option β} : ∀ {l : List α}, (∀ a ∈ l, f a = g a) → l.filterMap f = l.filterMap g
  | [], _ => rfl
  | a :: l, h => by
    rw [List.filterMap_cons, List.filterMap_cons, h a (.head _), fm_congr (fun b hb => h b (.tail _ hb))]
def hasL (L : List FV) (e : FV) : Bool := L.any (fun a => eqP a.n.x e.n.x)
def FV.dec (e : FV) : FV := ⟨{ e.n with le := e.n.le - 1 }, e.P⟩
/-- a flow behind a tick -/
def tk1 (e : FV) : Option FV := if e.n.le - 1 == 0 then none else some e.dec
def tkg (L : List FV) (e : FV) : Option FV := if hasL L e then tk1 e else some e
def tkL (E L : List FV) : List FV := E.filterMap (tkg L)
def endN (L : List FV) : Nat := (L.filter (fun e => e.n.le - 1 == 0)).length
theorem tk1_x {e a : FV} (h : tk1 e = some a) : a.n.x = e.n.x ∧ a.P = e.P := by
  unfold tk1 at h
  split at h
  · cases h
  · obtain rfl := Option.some.inj h; exact ⟨rfl, rfl⟩
theorem tkg_x {L : List FV} {e a : FV} (h : tkg L e = some a) : a.n.x = e.n.x ∧ a.P = e.P := by
  unfold tkg at h
  split at h
  · exact tk1_x h
  · obtain rfl := Option.some.inj h; exact ⟨rfl, rfl⟩
theorem tkL_nil (E : List FV) : tkL E [] = E := by
  unfold tkL
  have : tkg [] = some := by funext e; rfl
  rw [this]
  simp
theorem hasL_snoc (L : List FV) (s e : FV) : hasL (L ++ [s]) e = (hasL L e || eqP s.n.x e.n.x) := by
  unfold hasL
  simp [List.any_append]
theorem tkg_snoc {L : List FV} {s e : FV} (h : eqP e.n.x s.n.x = false) : tkg (L ++ [s]) e = tkg L e := by
  unfold tkg
  rw [hasL_snoc, eqP_comm s.n.x e.n.x, h, Bool.or_false]
theorem tkg_self {L : List FV} {s : FV} : tkg (L ++ [s]) s = tk1 s := by
  unfold tkg
  rw [hasL_snoc, eqP_refl, Bool.or_true]
  rfl
theorem dj_one {E : List FV} (dj : Dj E) {a b : FV} (ha : a ∈ E) (hb : b ∈ E) (h : eqP a.n.x b.n.x = true) : a = b := by
  have h1 := fF_mem dj ha h
  have h2 := fF_mem dj hb (eqP_refl b.n.x)
  rw [h1] at h2
  exact Option.some.inj h2
theorem tkL_upd {E L : List FV} {s : FV} (dj : Dj E) (hs : s ∈ E) (hn : hasL L s = false) (e' : FV) (h1 : tk1 s = some e') : updF (tkL E L) s.n.x e' = tkL E (L ++ [s]) := by
  unfold updF tkL
  rw [List.map_filterMap]
  apply fm_congr
  intro e he
  cases h : eqP e.n.x s.n.x with
  | true =>
    obtain rfl := dj_one dj he hs h
    rw [tkg_self, h1]
    have : tkg L e = some e := by unfold tkg; rw [hn]; rfl
    rw [this]
    simp only [Option.map_some]
    rw [eqP_refl]
    rfl
  | false =>
    rw [tkg_snoc h]
    cases h2 : tkg L e with
    | none => rfl
    | some a =>
      simp only [Option.map_some]
      rw [(tkg_x h2).1, h]
      rfl
theorem tkL_del {E L : List FV} {s : FV} (dj : Dj E) (hs : s ∈ E) (hn : hasL L s = false) (e' : FV) (hx : e'.n.x = s.n.x) (h1 : tk1 s = none) : delF (updF (tkL E L) s.n.x e') s.n.x = tkL E (L ++ [s]) := by
  unfold delF updF tkL
  rw [List.map_filterMap, List.filter_filterMap]
  apply fm_congr
  intro e he
  cases h : eqP e.n.x s.n.x with
  | true =>
    obtain rfl := dj_one dj he hs h
    rw [tkg_self, h1]
    have : tkg L e = some e := by unfold tkg; rw [hn]; rfl
    rw [this]
    simp only [Option.map_some]
    rw [eqP_refl]
    simp [hx, eqP_refl]
  | false =>
    rw [tkg_snoc h]
    cases h2 : tkg L e with
    | none => rfl
    | some a =>
      simp only [Option.map_some]
      rw [(tkg_x h2).1, h]
      simp [(tkg_x h2).1, h]
theorem tkL_mem {E L : List FV} {s : FV} (hs : s ∈ E) (hn : hasL L s = false) : s ∈ tkL E L := by
  unfold tkL
  rw [List.mem_filterMap]
  exact ⟨s, hs, by unfold tkg; rw [hn]; rfl⟩
theorem tkL_all {E L : List FV} (h : ∀ s ∈ E, s ∈ L) : tkL E L = E.filterMap tk1 := by
  unfold tkL
  apply fm_congr
  intro e he
  have : hasL L e = true := by
    unfold hasL
    rw [List.any_eq_true]
    exact ⟨e, h e he, eqP_refl _⟩
  unfold tkg
  rw [this]
  rfl
theorem tkL_tb {t M N : Nat} {E L : List FV} : ∀ q, TB t M N (tkL E L) q → TB t M N E q := by
  rintro q (h | h | h | ⟨a, ha, h⟩)
  · exact .inl h
  · exact .inr (.inl h)
  · exact .inr (.inr (.inl h))
  · unfold tkL at ha
    obtain ⟨e, he, h2⟩ := List.mem_filterMap.1 ha
    exact .inr (.inr (.inr ⟨e, he, by rw [h, (tkg_x h2).2]⟩))
theorem endN_snoc (L : List FV) (s : FV) : endN (L ++ [s]) = endN L + (if s.n.le - 1 == 0 then 1 else 0) := by
  unfold endN
  rw [List.filter_append, List.length_append]
  cases h : s.n.le - 1 == 0 <;> simp [h]
theorem endN_le (L : List FV) : endN L ≤ L.length := List.length_filter_le _ _
theorem endN_perm {L E : List FV} (h : L.Perm E) : endN L = endN E := (h.filter _).length_eq
theorem perm_of : ∀ {L R : List FV}, Dj L → Dj R → (∀ s, s ∈ L ↔ s ∈ R) → L.Perm R
  | [], R, _, _, h => by
    cases R with
    | nil => exact List.Perm.refl _
    | cons a R => have := (h a).2 (by simp); cases this
  | a :: L, R, dl, dr, h => by
    obtain ⟨d1, d2⟩ := List.pairwise_cons.1 dl
    obtain ⟨R1, R2, rfl⟩ := List.append_of_mem ((h a).1 (by simp))
    obtain ⟨dr1, dr2, dr3⟩ := List.pairwise_append.1 dr
    obtain ⟨dr4, dr5⟩ := List.pairwise_cons.1 dr2
    refine List.Perm.trans (List.Perm.cons a (perm_of d2 (R := R1 ++ R2) ?_ (fun s => ?_))) List.perm_middle.symm
    · exact List.pairwise_append.2 ⟨dr1, dr5, fun x hx y hy => dr3 x hx y (List.mem_cons_of_mem _ hy)⟩
    · constructor
      · intro hs
        have h1 := (h s).1 (List.mem_cons_of_mem _ hs)
        rcases List.mem_append.1 h1 with e | e
        · exact List.mem_append_left _ e
        · rcases List.mem_cons.1 e with e | e
          · subst e
            have := d1 s hs
            rw [eqP_refl] at this; cases this
          · exact List.mem_append_right _ e
      · intro hs
        have hsR : s ∈ R1 ++ a :: R2 := by
          rcases List.mem_append.1 hs with e | e
          · exact List.mem_append_left _ e
          · exact List.mem_append_right _ (List.mem_cons_of_mem _ e)
        rcases List.mem_cons.1 ((h s).2 hsR) with e | e
        · subst e
          rcases List.mem_append.1 hs with e | e
          · have := dr3 s e s (by simp); rw [eqP_refl] at this; cases this
          · have := dr4 s e; rw [eqP_refl] at this; cases this
        · exact e
theorem len_sub {L E : List FV} (dj : Dj L) (h : ∀ s ∈ L, s ∈ E) : L.length ≤ E.length := by
  induction L generalizing E with
  | nil => simp
  | cons a L ih =>
    obtain ⟨d1, d2⟩ := List.pairwise_cons.1 dj
    obtain ⟨R1, R2, rfl⟩ := List.append_of_mem (h a (by simp))
    have := ih (E := R1 ++ R2) d2 (fun s hs => by
      have h1 := h s (List.mem_cons_of_mem _ hs)
      rcases List.mem_append.1 h1 with e | e
      · exact List.mem_append_left _ e
      · rcases List.mem_cons.1 e with e | e
        · subst e
          have := d1 s hs
          rw [eqP_refl] at this
          cases this
        · exact List.mem_append_right _ e)
    simp at this ⊢
    omega
/-- of the flows E those of L have come; 'left': the keys that are still to come -/
structure RL (E L : List FV) (left : Lit → Bool) : Prop where
  sub : ∀ s ∈ L, s ∈ E
  dj : Dj L
  come : ∀ s ∈ E, ∀ kl, keyOf Tryd.prog 34 (.agg (tuC s.n.x)) = some kl → left kl = false → s ∈ L
  lft : ∀ kl, left kl = true → ∃ s ∈ E, keyOf Tryd.prog 34 (.agg (tuC s.n.x)) = some kl ∧ hasL L s = false
theorem RL.start {A : World} {M : Nat} {D : DataW Value} {E : List FV} (h : MA A M D (E.map FV.kp)) : RL E [] (Maps.has D) := by
  refine ⟨(fun s hs => by cases hs), List.Pairwise.nil, fun s hs kl hk hf => ?_, fun kl hl => ?_⟩
  · rw [(h.hs s.n.x kl hk).1, fnd_fF, fF_mem h.edj hs (eqP_refl _)] at hf
    cases hf
  · obtain ⟨r, hr, hk⟩ := h.ks kl hl
    obtain ⟨s, hs, rfl⟩ := List.mem_map.1 hr
    exact ⟨s, hs, hk, rfl⟩
theorem RL.next {E L : List FV} {left left' : Lit → Bool} {s : FV} {kl : Lit} (h : RL E L left) (dj : Dj E) (hs : s ∈ E) (hk : keyOf Tryd.prog 34 (.agg (tuC s.n.x)) = some kl) (hn : hasL L s = false) (hl : ∀ z, left' z = true ↔ (left z = true ∧ z.sameKey kl = false)) : RL E (L ++ [s]) left' := by
  have far : ∀ a ∈ L, eqP a.n.x s.n.x = false := fun a ha => by
    unfold hasL at hn
    rw [List.any_eq_false] at hn
    simpa using hn a ha
  refine ⟨fun q hq => ?_, ?_, fun q hq kq hkq hlq => ?_, fun kq hkq => ?_⟩
  · rcases List.mem_append.1 hq with e | e
    · exact h.sub q e
    · simp only [List.mem_singleton] at e; subst e; exact hs
  · refine List.pairwise_append.2 ⟨h.dj, by simp, fun a ha b hb => ?_⟩
    simp only [List.mem_singleton] at hb; subst hb; exact far a ha
  · by_cases e0 : left kq = true
    · have e : kq.sameKey kl = true := by
        cases e1 : kq.sameKey kl with
        | true => rfl
        | false =>
          have := (hl kq).2 ⟨e0, e1⟩
          rw [hlq] at this
          cases this
      have e1 : kq = kl := WideAt.sameKey_eq e
      subst e1
      have e2 := lawR.inj hkq hk
      have e3 : tuC q.n.x = tuC s.n.x := by simpa using e2
      rw [dj_one dj hq hs ((eqP_iff _ _).2 e3)]
      simp
    · exact List.mem_append_left _ (h.come q hq kq hkq (by simpa using e0))
  · obtain ⟨h1, h2⟩ := (hl kq).1 hkq
    obtain ⟨q, hq, hkq2, hnq⟩ := h.lft kq h1
    refine ⟨q, hq, hkq2, ?_⟩
    rw [hasL_snoc, hnq, Bool.false_or]
    rw [Bool.eq_false_iff]
    intro e
    have e3 := (eqP_iff _ _).1 e
    rw [← e3, hk] at hkq2
    obtain rfl := Option.some.inj hkq2
    rw [WideAt.sameKey_self (key_lit hk)] at h2
    cases h2
theorem RL.done {E L : List FV} {left : Lit → Bool} (h : RL E L left) (dj : Dj E) (hw : ∀ e ∈ E, e.n.x.Wf) (h0 : ∀ kl, left kl = false) : (∀ s ∈ E, s ∈ L) ∧ L.Perm E := by
  have h1 : ∀ s ∈ E, s ∈ L := fun s hs => by
    obtain ⟨kl, hk⟩ := kv_key s.n.x (hw s hs)
    exact h.come s hs kl hk (h0 kl)
  exact ⟨h1, perm_of h.dj dj (fun s => ⟨h.sub s, h1 s⟩)⟩
structure LeOk (e : FV) : Prop where
  lo : 1 ≤ e.n.le
  hi : e.n.le ≤ 1048576
set_option maxHeartbeats 3200000 in
set_option maxRecDepth 100000 in
theorem tick_any (t M N : Nat) (c : CF) (E : List FV) (w : World) (h : TA w t M N c E) (hl : E.length ≤ 4096) (hle : ∀ e ∈ E, LeOk e) : Calls Tryd.prog 18 #[.pointer (some ⟨t, 0, none⟩)] w fun r w' => r = .returned (.int .i64 (endN E : Nat)) ∧ TA w' t M N c (E.filterMap tk1) ∧ Ch (TB t M N E) w w' := by
  obtain ⟨D, hD⟩ := h.ma
  have HC : Hid (TA w t M N c E ∧ MA w M D (E.map FV.kp) ∧ E.length ≤ 4096 ∧ (∀ e ∈ E, LeOk e) ∧ Dj E) := ⟨h, hD, hl, hle, h.dj⟩
  have cm := TblAt.mp h.cb
  have HMO : Hid (w.ownsMap Tryd.prog 34 anyE M E.length D) := by have := hD.mo; rwa [List.length_map] at this
  clear h hD hl hle
  go_enter Tryd.func18, Tryd.ntmps18
  go_wp2_with (first | (refine wpList_range_own _ rfl (.tmp 9) 62 rfl 34 67 lawR Tryd.underlying62 anyE M E.length D rfl HMO.out ?_))
  intro w2 hrg2 hg2 hs2
  have b2 : Below w.heap.size w w2 := ⟨hg2.os, hg2.tape, hg2.output, hg2.size, fun k hk => hg2.block k hk (by simp)⟩
  obtain ⟨r, hr⟩ : ∃ r, r = w.heap.size := ⟨_, rfl⟩
  rw [← hr] at hrg2 ⊢
  have HRW : Hid (r = w.heap.size) := hr
  have HR0 : Hid (TA w2 t M N c (tkL E []) ∧ MA w2 M D ((tkL E []).map FV.kp) ∧ w2.ranges Tryd.prog 34 anyE M r E.length D (Maps.has D) (Maps.size D) ∧ RL E [] (Maps.has D) ∧ Ch (TB t M N E) w w2) := ⟨by rw [tkL_nil]; exact HC.out.1.below b2, by rw [tkL_nil]; exact HC.out.2.1.below b2, hrg2, RL.start HC.out.2.1, Ch.ofBelow b2⟩
  clear hrg2 hg2 hs2 b2 hr cm
  go_wp2_with fail
  go_loopw [3, 5] (fun l _ wr => ∃ (n : Nat) (L : List FV) (left : Lit → Bool) (cnt : Nat) (Dk : DataW Value), l = .int .i64 (n : Nat) ∧ Hid (n = endN L) ∧ Hid (TA wr t M N c (tkL E L) ∧ MA wr M Dk ((tkL E L).map FV.kp) ∧ wr.ranges Tryd.prog 34 anyE M r E.length Dk left cnt ∧ RL E L left ∧ Ch (TB t M N E) w wr)) (fun _ _ wr => wr.rangeLeft M r)
  case atStart => exact ⟨0, [], _, _, D, rfl, rfl, HR0⟩
  case round =>
    obtain ⟨n, L, left, cnt, Dk, rfl, HN, HR⟩ := hrel
    clear HR0
    go_wp2_with (first | (refine wpList_next_ranges (α := Value) (β := Value) _ rfl (.tmp 10) rfl 34 lawR anyE id id (fun k _ _ => ⟨k, rfl⟩) (fun v _ _ => ⟨v, rfl⟩) M r E.length Dk left cnt rfl HR.out.2.2.1 ?_ ?_))
    · intro hc0 hl0
      have HP : Hid (n = endN E ∧ tkL E L = E.filterMap tk1) := by
        obtain ⟨h1, h2⟩ := HR.out.2.2.2.1.done HC.out.2.2.2.2 HC.out.1.wf hl0
        exact ⟨by rw [HN.out, endN_perm h2], tkL_all h1⟩
      clear hc0 hl0
      go_wp2_with fail
      go_ret
      exact ⟨by rw [← HP.out.1]; rfl, by rw [← HP.out.2]; exact HR.out.1, HR.out.2.2.2.2⟩
    · intro key cv kl yd yp w3 cnt3 hkey hleft hR hat hrg3 hlt3 hg3 hs3 hen
      obtain ⟨s, hsE, hk, hnL⟩ := HR.out.2.2.2.1.lft kl hleft
      have hsT := tkL_mem hsE hnL
      have hcv : cv = .pointer (some ⟨s.P, 0, none⟩) := by
        have h1 := (HR.out.2.1.hs s.n.x kl hk).2
        rw [ptr_pt, fF_mem HR.out.1.dj hsT (eqP_refl _), hat] at h1
        have hy : (yd, yp) = ((.held cv, []) : DataW Value × List MemPlace) := by
          have : some ((DataW.held (id cv) : DataW Value), ([] : List MemPlace)) = some (yd, yp) := hR
          exact (Option.some.inj this).symm
        have hy1 : yd = .held cv := congrArg Prod.fst hy
        rw [hy1] at h1
        have h2 : (DataW.held cv : DataW Value) = .held (ptF (some s)) := h1
        simpa [ptF] using h2
      have hkv : key = .agg (tuC s.n.x) := lawR.inj hkey hk
      subst hcv hkv
      have k3 : Ch (fun q => q = r) wr w3 := (Ch.ofGrown hg3).mono (fun q _ hq => by have e : some r = some q := hq; simp at e; exact e.symm)
      have hrb : ∀ q, TB t M N E q → q ≠ r := fun q hq e => by have := HC.out.1.tlt q hq; have := HRW.out; omega
      have H3 : Hid (TA w3 t M N c (tkL E L) ∧ MA w3 M Dk ((tkL E L).map FV.kp) ∧ w3.ranges Tryd.prog 34 anyE M r E.length Dk (fun z => left z && !z.sameKey kl) cnt3 ∧ Ch (TB t M N E) w w3 ∧ cnt3 < cnt) := ⟨HR.out.1.ch k3 (fun q hq => hrb q (tkL_tb q hq)), HR.out.2.1.ch k3 (hrb M (.inr (.inl rfl))), hrg3, HR.out.2.2.2.2.trans k3 (fun q hq h => by have h' : q = r := h; have := HRW.out; omega), hlt3⟩
      have HS : Hid (s ∈ E ∧ s ∈ tkL E L ∧ hasL L s = false ∧ keyOf Tryd.prog 34 (.agg (tuC s.n.x)) = some kl ∧ LeOk s ∧ fF (tkL E L) s.n.x = some s) := ⟨hsE, hsT, hnL, hk, HC.out.2.2.2.1 s hsE, fF_mem HR.out.1.dj hsT (eqP_refl _)⟩
      have HLN : Hid (L.length < 4096) := by
        have h1 : (L ++ [s]).length ≤ E.length := len_sub (HR.out.2.2.2.1.next (left' := fun z => left z && !z.sameKey kl) HC.out.2.2.2.2 hsE hk hnL (fun z => by simp)).dj (HR.out.2.2.2.1.next (left' := fun z => left z && !z.sameKey kl) HC.out.2.2.2.2 hsE hk hnL (fun z => by simp)).sub
        have h2 := HC.out.2.2.1
        rw [List.length_append] at h1
        simp only [List.length_cons, List.length_nil] at h1
        show L.length < 4096
        omega
      clear hkey hleft hR hat hrg3 hlt3 hg3 hs3 hsE hsT hnL hk k3 hrb
      obtain ⟨lf, hlf⟩ : ∃ lf, s.n.le = lf := ⟨_, rfl⟩
      have c39 := (H3.out.1.en s HS.out.2.1).c39
      have f39 := (H3.out.1.en s HS.out.2.1).fz 39
      rw [hlf] at c39
      have HLF : Hid (s.n.le = lf) := hlf
      have wl : IntKind.i64.wrap (lf - 1) = lf - 1 := by have h1 := HS.out.2.2.2.2.1; have h2 := h1.lo; have h3 := h1.hi; rw [IntKind.wrap_i64]; omega
      clear hlf
      (try simp only [id] at hen ⊢)
      go_upto_region 6 with fail
      obtain ⟨w4, hw4⟩ : ∃ w4, w4 = w3.setCell ⟨s.P, 39, none⟩ (.int .i64 (lf - 1)) := ⟨_, rfl⟩
      rw [← hw4]
      have HMN : Hid (M ≠ s.P ∧ r ≠ s.P) := by
        refine ⟨fun e => (H3.out.1.nt.2.2 s HS.out.2.1).2.1 e.symm, fun e => ?_⟩
        have h1 := (HC.out.1.tlt s.P (.inr (.inr (.inr ⟨s, HS.out.1, rfl⟩))))
        have := HRW.out
        omega
      have H4 : Hid (TA w4 t M N c (updF (tkL E L) s.n.x s.dec) ∧ MA w4 M Dk ((updF (tkL E L) s.n.x s.dec).map FV.kp) ∧ w4.ranges Tryd.prog 34 anyE M r E.length Dk (fun z => left z && !z.sameKey kl) cnt3 ∧ Ch (TB t M N E) w w4 ∧ FloAt w4 s.P s.dec.n) := by
        have k4 := (Ch.refl (fun q => q = s.P) w3).set ⟨s.P, 39, none⟩ (.int .i64 (lf - 1)) rfl
        have hF := FloAt.set (H3.out.1.en s HS.out.2.1) 39 (.int .i64 (lf - 1)) (set_le _ _)
        rw [← hw4] at k4 hF
        have hF' : FloAt w4 s.P s.dec.n := by
          unfold FV.dec
          rw [HLF.out]
          exact hF
        refine ⟨TA.turned (A := w3) (e := s) (e' := s.dec) H3.out.1 HS.out.2.2.2.2.2 rfl rfl rfl k4 hF', ?_, ranges_ch H3.out.2.2.1 k4 HMN.out.1 HMN.out.2, H3.out.2.2.2.1.trans k4 (fun q _ h => .inr (.inr (.inr ⟨s, HS.out.1, h⟩))), hF'⟩
        rw [upd_map (e' := s.dec) H3.out.1.dj HS.out.2.2.2.2.2 rfl rfl]
        exact H3.out.2.1.ch k4 HMN.out.1
      have d39 := H4.out.2.2.2.2.c39
      unfold FV.dec at d39
      simp only at d39
      rw [HLF.out] at d39
      clear hw4 c39 f39
      obtain ⟨bz, hbz⟩ : ∃ bz, (lf - 1 == 0) = bz := ⟨_, rfl⟩
      have HBZ : Hid ((s.n.le - 1 == 0) = bz) := by show _ = _; rw [HLF.out]; exact hbz
      obtain ⟨NL, hNL⟩ : ∃ NL, NL = L ++ [s] := ⟨_, rfl⟩
      have HNL : Hid (NL = L ++ [s]) := hNL
      clear hNL
      cases bz with
      | false =>
        have HT1 : Hid (tk1 s = some s.dec) := by show _ = _; unfold tk1; rw [HBZ.out]; rfl
        go_wp2_with fail
        go_roundw
        case rel =>
          refine ⟨n, NL, (fun z => left z && !z.sameKey kl), cnt3, Dk, rfl, ?_, ?_⟩
          · show n = endN NL
            rw [HNL.out, endN_snoc, HBZ.out, HN.out]
            rfl
          · show _ ∧ _
            rw [HNL.out, ← tkL_upd HC.out.2.2.2.2 HS.out.1 HS.out.2.2.1 s.dec HT1.out]
            exact ⟨H4.out.1, H4.out.2.1, H4.out.2.2.1, HR.out.2.2.2.1.next HC.out.2.2.2.2 HS.out.1 HS.out.2.2.2.1 HS.out.2.2.1 (fun z => by simp), H4.out.2.2.2.1⟩
        case measure => rw [H4.out.2.2.1.left_eq, HR.out.2.2.1.left_eq]; exact H3.out.2.2.2.2
      | true =>
        have HT1 : Hid (tk1 s = none) := by show _ = _; unfold tk1; rw [HBZ.out]; rfl
        have HSD : Hid (s.dec ∈ updF (tkL E L) s.n.x s.dec) := by
          unfold updF
          exact List.mem_map.2 ⟨s, HS.out.2.1, by rw [eqP_refl]; rfl⟩
        have QE : Hid _ := end_any t M N c (updF (tkL E L) s.n.x s.dec) w4 H4.out.1 s.dec HSD.out Dk H4.out.2.1
        have HWN : Hid (n ≤ 4096) := by have h1 := HN.out; have h2 := endN_le L; have h3 := HLN.out; show n ≤ 4096; omega
        have wn : IntKind.i64.wrap ((n : Int) + 1) = (n : Int) + 1 := by have := HWN.out; rw [IntKind.wrap_i64]; omega
        go_wp2_with fail
        refine Calls.mono QE.out ?_
        rintro e5 w5 ⟨rfl, hTA5, k5, kl5, hkl5, hMA5, hRg5⟩
        have H5 : Hid (TA w5 t M N c (tkL E NL) ∧ (∃ D5, MA w5 M D5 ((tkL E NL).map FV.kp) ∧ ∃ cnt5 left5, cnt5 < cnt ∧ w5.ranges Tryd.prog 34 anyE M r E.length D5 left5 cnt5 ∧ RL E NL left5) ∧ Ch (TB t M N E) w w5) := by
          have hd : delF (updF (tkL E L) s.n.x s.dec) s.dec.n.x = tkL E NL := by
            rw [HNL.out]
            exact tkL_del HC.out.2.2.2.2 HS.out.1 HS.out.2.2.1 s.dec rfl HT1.out
          rw [hd] at hTA5 hMA5
          have hkk : kl5 = kl := by
            have h1 : keyOf Tryd.prog 34 (.agg (tuC s.n.x)) = some kl5 := hkl5
            rw [HS.out.2.2.2.1] at h1
            exact (Option.some.inj h1).symm
          subst hkk
          obtain ⟨cnt5, hc5, hr5⟩ := hRg5 r E.length _ cnt3 H4.out.2.2.1
          refine ⟨hTA5, ⟨_, hMA5, cnt5, _, Nat.lt_of_le_of_lt hc5 H3.out.2.2.2.2, hr5, ?_⟩, H4.out.2.2.2.1.trans k5 (fun q _ h => h.elim (fun h => .inr (.inl h)) (fun h => .inr (.inr (.inl h))))⟩
          rw [HNL.out]
          exact HR.out.2.2.2.1.next HC.out.2.2.2.2 HS.out.1 HS.out.2.2.2.1 HS.out.2.2.1 (fun z => by simp)
        clear hTA5 k5 hkl5 hMA5 hRg5 QE
        go_wp2_with fail
        go_roundw
        case rel =>
          obtain ⟨h1, ⟨D5, h2, cnt5, left5, h3, h4, h5⟩, h6⟩ := H5.out
          refine ⟨n + 1, NL, left5, cnt5, D5, by first | rfl | go_num | simp, ?_, ⟨h1, h2, h4, h5, h6⟩⟩
          show n + 1 = endN NL
          rw [HNL.out, endN_snoc, HBZ.out, HN.out]
          rfl
        case measure =>
          obtain ⟨h1, ⟨D5, h2, cnt5, left5, h3, h4, h5⟩, h6⟩ := H5.out
          rw [h4.left_eq, HR.out.2.2.1.left_eq]
          exact h3
end Go.Proofs.YtclpeepnngegaaaDoor
