/-
  Layer 15: a range over the cache's map, under way: which entries have come.
-/
import Derived.Test.YtnpipngiehohgaaNgGet
namespace Go.Proofs.Ytnpipngiehohgaa
open Go.RowKit Go.Maps

theorem ranges_ch {S : Nat → Prop} {A A' : World} {M r n : Nat} {D : DataW Value} {left : Lit → Bool} {cnt : Nat} (h : A.ranges Try.prog 98 anyE M r n D left cnt) (k : Ch S A A') (hM : ¬ S M) (hr : ¬ S r) : A'.ranges Try.prog 98 anyE M r n D left cnt := by
  have h1 := h.owns.lt
  have h2 := h.lt
  obtain ⟨es, clock, since, seen, c0, hb, F, hs, hD, hr', rest⟩ := h
  exact ⟨es, clock, since, seen, c0, (k.block M h1 hM).trans hb, F, hs, hD, (k.block r h2 hr).trans hr', rest⟩
theorem ranges_it {A : World} {M r n : Nat} {D : DataW Value} {left : Lit → Bool} {cnt : Nat} (h : A.ranges Try.prog 98 anyE M r n D left cnt) : ∃ a b c d, A.heap[r]? = some (.mapIter a b c d) := by
  obtain ⟨es, clock, since, seen, c0, hb, F, hs, hD, hr', rest⟩ := h
  exact ⟨_, _, _, _, hr'⟩
theorem MA.mo' {w : World} {M : Nat} {D : DataW Value} {E : List EV} (h : MA w M D (E.map EV.kp)) : w.ownsMap Try.prog 98 anyE M E.length D := by
  have := h.mo
  rwa [List.length_map] at this
abbrev Dj (E : List EV) : Prop := E.Pairwise (fun a b => eqP a.n.k b.n.k = false)
/-- of the entries E those of L have come -/
structure RS (A : World) (M : Nat) (D : DataW Value) (E : List EV) (r : Nat) (L : List EV) (left : Lit → Bool) (cnt : Nat) : Prop where
  rg : A.ranges Try.prog 98 anyE M r E.length D left cnt
  ma : MA A M D (E.map EV.kp)
  sub : ∀ s ∈ L, s ∈ E
  dj : Dj L
  come : ∀ s ∈ E, ∀ kl, keyOf Try.prog 98 (.agg (kC s.n.k)) = some kl → left kl = false → s ∈ L
  fresh : ∀ s ∈ L, ∀ kl, keyOf Try.prog 98 (.agg (kC s.n.k)) = some kl → left kl = false
  lh : ∀ kl, left kl = true → Maps.has D kl = true
theorem MA.edj {A : World} {M : Nat} {D : DataW Value} {E : List EV} (h : MA A M D (E.map EV.kp)) : Dj E := List.pairwise_map.1 h.dj
theorem RS.start {A : World} {M : Nat} {D : DataW Value} {E : List EV} {r : Nat} {cnt : Nat} (h : MA A M D (E.map EV.kp)) (hr : A.ranges Try.prog 98 anyE M r E.length D (Maps.has D) cnt) : RS A M D E r [] (Maps.has D) cnt := by
  refine ⟨hr, h, (fun s hs => by cases hs), List.Pairwise.nil, fun s hs kl hk hf => ?_, (fun s hs => by cases hs), fun _ h => h⟩
  rw [(h.hs s.n.k kl hk).1, fnd_fE, fE_mem h.edj hs (eqP_refl _)] at hf
  cases hf
theorem RS.ch {S : Nat → Prop} {A A' : World} {M : Nat} {D : DataW Value} {E : List EV} {r : Nat} {L : List EV} {left : Lit → Bool} {cnt : Nat} (h : RS A M D E r L left cnt) (k : Ch S A A') (hM : ¬ S M) (hr : ¬ S r) : RS A' M D E r L left cnt :=
  { h with rg := ranges_ch h.rg k hM hr, ma := h.ma.ch k hM }
theorem RS.below {A A' : World} {M : Nat} {D : DataW Value} {E : List EV} {r : Nat} {L : List EV} {left : Lit → Bool} {cnt : Nat} (h : RS A M D E r L left cnt) (k : Below A.heap.size A A') : RS A' M D E r L left cnt := h.ch (Ch.ofBelow (S := fun _ => False) k) id id
/-- the next one -/
theorem RS.next {A A' : World} {M : Nat} {D : DataW Value} {E : List EV} {r : Nat} {L : List EV} {left : Lit → Bool} {cnt cnt' : Nat} {x c : Value} {kl : Lit} {y : DataW Value × List MemPlace} (h : RS A M D E r L left cnt) (hx : keyOf Try.prog 98 x = some kl) (hl : left kl = true) (hR : anyE c = some y) (hat : ∀ zd, D.atKey kl zd = y.1)
    (hrg : A'.ranges Try.prog 98 anyE M r E.length D (fun z => left z && !z.sameKey kl) cnt') (hg : A.grownBy A' (some r)) :
    ∃ s ∈ E, x = .agg (kC s.n.k) ∧ c = .pointer (some ⟨s.P, 0, none⟩) ∧ s ∉ L ∧ (∀ a ∈ L, eqP a.n.k s.n.k = false) ∧ RS A' M D E r (L ++ [s]) (fun z => left z && !z.sameKey kl) cnt' := by
  obtain ⟨s0, hs0, hk⟩ := h.ma.ks kl (h.lh kl hl)
  obtain ⟨s, hs, rfl⟩ := List.mem_map.1 hs0
  have hk' : keyOf Try.prog 98 (.agg (kC s.n.k)) = some kl := hk
  have dj := h.ma.edj
  have h1 := (h.ma.hs s.n.k kl hk').2
  rw [ptr_pt, fE_mem dj hs (eqP_refl _), hat] at h1
  have hy : y = (.held c, []) := by
    have : some ((DataW.held c : DataW Value), ([] : List MemPlace)) = some y := hR
    exact (Option.some.inj this).symm
  rw [hy] at h1
  have h2 : (DataW.held c : DataW Value) = .held (ptE (some s)) := h1
  have hnL : s ∉ L := fun hm => by
    have := h.fresh s hm kl hk'
    rw [hl] at this
    cases this
  have k := Ch.ofGrown hg
  have hMr : ¬ (some r = some M) := fun e => by
    have e' : r = M := by simpa using e
    obtain ⟨_, _, _, _, hi⟩ := ranges_it h.rg
    obtain ⟨es, ck, hb, _⟩ := h.ma.mo
    rw [e', hb] at hi
    cases hi
  have far : ∀ a ∈ L, eqP a.n.k s.n.k = false := fun a ha => by
    rw [Bool.eq_false_iff]
    intro e
    have h3 := fE_mem dj (h.sub a ha) e
    have h4 := fE_mem dj hs (eqP_refl s.n.k)
    rw [h3] at h4
    exact hnL (by rw [← Option.some.inj h4]; exact ha)
  refine ⟨s, hs, lawR.inj hx hk', by simpa [ptE] using h2, hnL, far, hrg, h.ma.ch k hMr, fun q hq => ?_, ?_, fun q hq kq hkq hlq => ?_, fun q hq kq hkq => ?_, fun kq hkq => ?_⟩
  · rcases List.mem_append.1 hq with e | e
    · exact h.sub q e
    · simp only [List.mem_singleton] at e; subst e; exact hs
  · refine List.pairwise_append.2 ⟨h.dj, by simp, fun a ha b hb => ?_⟩
    simp only [List.mem_singleton] at hb; subst hb; exact far a ha
  · simp only [Bool.and_eq_false_iff, Bool.not_eq_false'] at hlq
    rcases hlq with e | e
    · exact List.mem_append_left _ (h.come q hq kq hkq e)
    · have e1 : kq = kl := WideAt.sameKey_eq e
      subst e1
      have e2 := lawR.inj hkq hk'
      have e3 : kC q.n.k = kC s.n.k := by simpa using e2
      have h3 := fE_mem dj hq ((eqP_iff _ _).2 e3)
      have h4 := fE_mem dj hs (eqP_refl s.n.k)
      rw [h3] at h4
      rw [Option.some.inj h4]
      simp
  · rcases List.mem_append.1 hq with e | e
    · rw [h.fresh q e kq hkq]; rfl
    · simp only [List.mem_singleton] at e
      subst e
      have e1 : kq = kl := Option.some.inj (hkq.symm.trans hk')
      rw [e1, WideAt.sameKey_self (key_lit hk')]
      simp
  · simp only [Bool.and_eq_true] at hkq
    exact h.lh kq hkq.1
theorem perm_of : ∀ {L R : List EV}, Dj L → Dj R → (∀ s, s ∈ L ↔ s ∈ R) → L.Perm R
  | [], R, _, _, h => by
    cases R with
    | nil => exact List.Perm.refl _
    | cons a R => have := (h a).2 (by simp); cases this
  | a :: L, R, dl, dr, h => by
    obtain ⟨d1, d2⟩ := List.pairwise_cons.1 dl
    obtain ⟨R1, R2, rfl⟩ := List.append_of_mem ((h a).1 (by simp))
    obtain ⟨dr1, dr2, dr3⟩ := List.pairwise_append.1 dr
    obtain ⟨dr4, dr5⟩ := List.pairwise_cons.1 dr2
    refine List.Perm.trans (List.Perm.cons a (perm_of d2 (R := R1 ++ R2) ?_ (fun s => ?_))) List.perm_middle.symm
    · exact List.pairwise_append.2 ⟨dr1, dr5, fun x hx y hy => dr3 x hx y (List.mem_cons_of_mem _ hy)⟩
    · constructor
      · intro hs
        have h1 := (h s).1 (List.mem_cons_of_mem _ hs)
        rcases List.mem_append.1 h1 with e | e
        · exact List.mem_append_left _ e
        · rcases List.mem_cons.1 e with e | e
          · subst e
            have := d1 s hs
            rw [eqP_refl] at this; cases this
          · exact List.mem_append_right _ e
      · intro hs
        have hsR : s ∈ R1 ++ a :: R2 := by
          rcases List.mem_append.1 hs with e | e
          · exact List.mem_append_left _ e
          · exact List.mem_append_right _ (List.mem_cons_of_mem _ e)
        rcases List.mem_cons.1 ((h s).2 hsR) with e | e
        · subst e
          rcases List.mem_append.1 hs with e | e
          · have := dr3 s e s (by simp); rw [eqP_refl] at this; cases this
          · have := dr4 s e; rw [eqP_refl] at this; cases this
        · exact e
theorem RS.done {A : World} {M : Nat} {D : DataW Value} {E : List EV} {r : Nat} {L : List EV} {left : Lit → Bool} {cnt : Nat} (h : RS A M D E r L left cnt) (h0 : ∀ kl, left kl = false) : L.Perm E := by
  refine perm_of h.dj h.ma.edj (fun s => ⟨h.sub s, fun hs => ?_⟩)
  have hw := h.ma.wf s.kp (List.mem_map_of_mem hs)
  obtain ⟨kl, hk⟩ := kv_key s.n.k hw
  exact h.come s hs kl hk (h0 kl)
def waitN (E : List EV) : Nat := (E.map (fun e => e.n.ln.length)).foldr (· + ·) 0
theorem waitN_snoc (L : List EV) (e : EV) : waitN (L ++ [e]) = waitN L + e.n.ln.length := by
  unfold waitN
  induction L with
  | nil => simp
  | cons a L ih => simp only [List.cons_append, List.map_cons, List.foldr_cons, ih]; omega
theorem waitN_perm {L E : List EV} (h : L.Perm E) : waitN L = waitN E := by
  unfold waitN
  induction h with
  | nil => rfl
  | cons a _ ih => simp only [List.map_cons, List.foldr_cons, ih]
  | swap a b l => simp only [List.map_cons, List.foldr_cons]; omega
  | trans _ _ h1 h2 => exact h1.trans h2
theorem waitN_le {L E : List EV} (d : Dj L) (h : ∀ s ∈ L, s ∈ E) (b : Nat) (hb : ∀ e ∈ E, e.n.ln.length ≤ b) : waitN L ≤ L.length * b := by
  induction L with
  | nil => simp [waitN]
  | cons a L ih =>
    have h1 := ih (List.pairwise_cons.1 d).2 (fun s hs => h s (List.mem_cons_of_mem _ hs))
    have h2 := hb a (h a (by simp))
    unfold waitN at h1 ⊢
    simp only [List.map_cons, List.foldr_cons, List.length_cons, Nat.succ_mul]
    omega
theorem len_sub {L E : List EV} (dj : Dj L) (h : ∀ s ∈ L, s ∈ E) : L.length ≤ E.length := by
  induction L generalizing E with
  | nil => simp
  | cons a L ih =>
    obtain ⟨d1, d2⟩ := List.pairwise_cons.1 dj
    obtain ⟨R1, R2, rfl⟩ := List.append_of_mem (h a (by simp))
    have := ih (E := R1 ++ R2) d2 (fun s hs => by
      have h1 := h s (List.mem_cons_of_mem _ hs)
      rcases List.mem_append.1 h1 with e | e
      · exact List.mem_append_left _ e
      · rcases List.mem_cons.1 e with e | e
        · subst e
          have := d1 s hs
          rw [eqP_refl] at this
          cases this
        · exact List.mem_append_right _ e)
    simp at this ⊢
    omega
set_option maxHeartbeats 3200000 in
set_option maxRecDepth 100000 in
theorem waiting_any (t M : Nat) (c : CF) (E : List EV) (w : World) (h : CA w t M c E) (hl : E.length ≤ 1024) (hb : ∀ e ∈ E, e.n.ln.length ≤ 64) : Calls Try.prog 20 #[.pointer (some ⟨t, 0, none⟩)] w fun r w' => r = .returned (.int .i64 (waitN E : Nat)) ∧ Below w.heap.size w w' := by
  obtain ⟨D, hD⟩ := h.ma
  have HC : Hid (CA w t M c E ∧ MA w M D (E.map EV.kp) ∧ E.length ≤ 1024 ∧ ∀ e ∈ E, e.n.ln.length ≤ 64) := ⟨h, hD, hl, hb⟩
  have cm := h.cb.mp
  clear h hD hl hb
  go_enter Try.func20, Try.ntmps20
  go_wp2_with (first | (refine wpList_range_own _ rfl (.tmp 9) 100 rfl 98 99 lawR Try.underlying100 anyE M E.length D rfl HC.out.2.1.mo' ?_))
  intro w2 hrg2 hg2 hs2
  have b2 : Below w.heap.size w w2 := ⟨hg2.os, hg2.tape, hg2.output, hg2.size, fun k hk => hg2.block k hk (by simp)⟩
  obtain ⟨r, hr⟩ : ∃ r, r = w.heap.size := ⟨_, rfl⟩
  rw [← hr] at hrg2 ⊢
  have HR0 : Hid (RS w2 M D E r [] (Maps.has D) (Maps.size D) ∧ CA w2 t M c E ∧ Below w.heap.size w w2) := ⟨RS.start (HC.out.2.1.below b2) hrg2, HC.out.1.below b2, b2⟩
  have HRW : Hid (r = w.heap.size) := hr
  clear hrg2 hg2 hs2 b2 hr cm
  go_wp2_with fail
  go_loopw [3] (fun l wr => ∃ (L : List EV) (left : Lit → Bool) (cnt : Nat), l = .int .i64 (waitN L : Nat) ∧ Hid (RS wr M D E r L left cnt ∧ CA wr t M c E ∧ Below w.heap.size w wr)) (fun _ wr => wr.rangeLeft M r)
  case atStart => exact ⟨[], _, _, rfl, HR0⟩
  case round =>
    obtain ⟨L, left, cnt, rfl, HR⟩ := hrel
    clear HR0
    go_wp2_with (first | (refine wpList_next_ranges (α := Value) (β := Value) _ rfl (.tmp 10) rfl 98 lawR anyE id id (fun k _ _ => ⟨k, rfl⟩) (fun v _ _ => ⟨v, rfl⟩) M r E.length D left cnt rfl HR.out.1.rg ?_ ?_))
    · intro hc0 hl0
      have HP : Hid (waitN L = waitN E) := waitN_perm (HR.out.1.done hl0)
      clear hc0 hl0
      go_wp2_with fail
      go_ret
      exact ⟨by rw [← HP.out]; rfl, HR.out.2.2⟩
    · intro key cv kl yd yp w3 cnt3 hkey hleft hR hat hrg3 hlt3 hg3 hs3 hen
      obtain ⟨s, hsE, hkv, hcv, hnL, hfar, hRS⟩ := HR.out.1.next (y := (yd, yp)) hkey hleft hR hat hrg3 hg3
      have hcv' : cv = .pointer (some ⟨s.P, 0, none⟩) := hcv
      have hkv' : key = .agg (kC s.n.k) := hkv
      subst hcv' hkv'
      have hrb : w.heap.size ≤ r := by rw [HRW.out]; exact Nat.le_refl _
      have b3 : Below w.heap.size w w3 := HR.out.2.2.trans ((Ch.ofGrown hg3).below (fun q e => by have e' : some r = some q := e; simp at e'; omega) HR.out.2.2.size)
      have hCA : CA w3 t M c E := HC.out.1.below b3
      obtain ⟨la, lc, hlv⟩ := (hCA.li s hsE).form
      have c9 := (hCA.en s hsE).cell 9
      simp only [enC, List.getElem?_toArray, List.getElem?_cons_succ, List.getElem?_cons_zero] at c9
      rw [hlv] at c9
      obtain ⟨NL, hNL⟩ : ∃ NL, NL = waitN L := ⟨_, rfl⟩
      obtain ⟨nl, hnl⟩ : ∃ nl, nl = s.n.ln.length := ⟨_, rfl⟩
      have hb1 : NL ≤ 65536 := by
        have h1 := waitN_le HR.out.1.dj HR.out.1.sub 64 HC.out.2.2.2
        have h2 := len_sub HR.out.1.dj HR.out.1.sub
        have h3 := HC.out.2.2.1
        rw [hNL]
        omega
      have hb2 : nl ≤ 64 := by rw [hnl]; exact HC.out.2.2.2 s hsE
      rw [← hnl] at c9
      rw [← hNL]
      have HS : Hid (waitN (L ++ [s]) = NL + nl) := by show _ = _; rw [waitN_snoc, ← hNL, ← hnl]
      have HX : Hid (RS w3 M D E r (L ++ [s]) (fun z => left z && !z.sameKey kl) cnt3 ∧ CA w3 t M c E ∧ Below w.heap.size w w3 ∧ cnt3 < cnt) := ⟨hRS, hCA, b3, hlt3⟩
      have wsum : IntKind.i64.wrap ((NL : Int) + (nl : Int)) = (NL : Int) + (nl : Int) := by rw [IntKind.wrap_i64]; omega
      clear hkv hcv hnL hfar hRS b3 hCA hrb hkey hleft hR hat hrg3 hlt3 hg3 hs3 hNL hnl hlv
      (try simp only [id] at hen ⊢)
      go_wp2_with fail
      go_roundw
      case rel => exact ⟨L ++ [s], _, _, by rw [HS.out]; simp, ⟨HX.out.1, HX.out.2.1, HX.out.2.2.1⟩⟩
      case measure => rw [HX.out.1.rg.left_eq, HR.out.1.rg.left_eq]; exact HX.out.2.2.2
end Go.Proofs.Ytnpipngiehohgaa
