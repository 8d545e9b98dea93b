/-
  FlTick FlLe: lemmas of the proof of FlowPlays, and walks through the functions that it calls.
-/
import Derived.Lib.BytesEntry
import Derived.Deep.RegionWith
import Derived.Deep.Draws
import Derived.Sort.Grow
import Derived.Test.YtclpeepnngegaaaGreatDoorP00
import Derived.Test.YtclpeepnngegaaaGreatDoorP11
namespace Go.Proofs.YtclpeepnngegaaaGreatDoor
open Go.RowKit Go.Maps
theorem fm_congr {α β : Type} {f g : α → Option β} : ∀ {l : List α}, (∀ a ∈ l, f a = g a) → l.filterMap f = l.filterMap g
 | [], _ => rfl
 | a :: l, h => by
  rw [List.filterMap_cons, List.filterMap_cons, h a (.head _), fm_congr (fun b hb => h b (.tail _ hb))]
def hasL (L : List FV) (e : FV) : Bool := L.any (fun a => eqP a.n.x e.n.x)
def FV.dec (e : FV) : FV := ⟨{ e.n with le := e.n.le - 1 }, e.P⟩
def tk1 (e : FV) : Option FV := if e.n.le - 1 == 0 then none else some e.dec
def tkg (L : List FV) (e : FV) : Option FV := if hasL L e then tk1 e else some e
def tkL (E L : List FV) : List FV := E.filterMap (tkg L)
def endN (L : List FV) : Nat := (L.filter (fun e => e.n.le - 1 == 0)).length
theorem tk1_x {e a : FV} (h : tk1 e = some a) : a.n.x = e.n.x ∧ a.P = e.P := by
 unfold tk1 at h
 split at h
 · cases h
 · obtain rfl := Option.some.inj h; exact ⟨rfl, rfl⟩
theorem tkg_x {L : List FV} {e a : FV} (h : tkg L e = some a) : a.n.x = e.n.x ∧ a.P = e.P := by
 unfold tkg at h
 split at h
 · exact tk1_x h
 · obtain rfl := Option.some.inj h; exact ⟨rfl, rfl⟩
theorem tkL_nil (E : List FV) : tkL E [] = E := by
 unfold tkL
 have : tkg [] = some := by funext e; rfl
 rw [this]
 simp
theorem hasL_snoc (L : List FV) (s e : FV) : hasL (L ++ [s]) e = (hasL L e || eqP s.n.x e.n.x) := by
 unfold hasL
 simp [List.any_append]
theorem tkg_snoc {L : List FV} {s e : FV} (h : eqP e.n.x s.n.x = false) : tkg (L ++ [s]) e = tkg L e := by
 unfold tkg
 rw [hasL_snoc, eqP_comm s.n.x e.n.x, h, Bool.or_false]
theorem tkg_self {L : List FV} {s : FV} : tkg (L ++ [s]) s = tk1 s := by
 unfold tkg
 rw [hasL_snoc, eqP_refl, Bool.or_true]
 rfl
theorem dj_one {E : List FV} (dj : Dj E) {a b : FV} (ha : a ∈ E) (hb : b ∈ E) (h : eqP a.n.x b.n.x = true) : a = b := by
 have h1 := fF_mem dj ha h
 have h2 := fF_mem dj hb (eqP_refl b.n.x)
 rw [h1] at h2
 exact Option.some.inj h2
theorem tkL_upd {E L : List FV} {s : FV} (dj : Dj E) (hs : s ∈ E) (hn : hasL L s = false) (e' : FV) (h1 : tk1 s = some e') : updF (tkL E L) s.n.x e' = tkL E (L ++ [s]) := by
 unfold updF tkL
 rw [List.map_filterMap]
 apply fm_congr
 intro e he
 cases h : eqP e.n.x s.n.x with
 | true =>
  obtain rfl := dj_one dj he hs h
  rw [tkg_self, h1]
  have : tkg L e = some e := by unfold tkg; rw [hn]; rfl
  rw [this]
  simp only [Option.map_some]
  rw [eqP_refl]
  rfl
 | false =>
  rw [tkg_snoc h]
  cases h2 : tkg L e with
  | none => rfl
  | some a =>
   simp only [Option.map_some]
   rw [(tkg_x h2).1, h]
   rfl
theorem tkL_del {E L : List FV} {s : FV} (dj : Dj E) (hs : s ∈ E) (hn : hasL L s = false) (e' : FV) (hx : e'.n.x = s.n.x) (h1 : tk1 s = none) : delF (updF (tkL E L) s.n.x e') s.n.x = tkL E (L ++ [s]) := by
 unfold delF updF tkL
 rw [List.map_filterMap, List.filter_filterMap]
 apply fm_congr
 intro e he
 cases h : eqP e.n.x s.n.x with
 | true =>
  obtain rfl := dj_one dj he hs h
  rw [tkg_self, h1]
  have : tkg L e = some e := by unfold tkg; rw [hn]; rfl
  rw [this]
  simp only [Option.map_some]
  rw [eqP_refl]
  simp [hx, eqP_refl]
 | false =>
  rw [tkg_snoc h]
  cases h2 : tkg L e with
  | none => rfl
  | some a =>
   simp only [Option.map_some]
   rw [(tkg_x h2).1, h]
   simp [(tkg_x h2).1, h]
theorem tkL_mem {E L : List FV} {s : FV} (hs : s ∈ E) (hn : hasL L s = false) : s ∈ tkL E L := by
 unfold tkL
 rw [List.mem_filterMap]
 exact ⟨s, hs, by unfold tkg; rw [hn]; rfl⟩
theorem tkL_all {E L : List FV} (h : ∀ s ∈ E, s ∈ L) : tkL E L = E.filterMap tk1 := by
 unfold tkL
 apply fm_congr
 intro e he
 have : hasL L e = true := by
  unfold hasL
  rw [List.any_eq_true]
  exact ⟨e, h e he, eqP_refl _⟩
 unfold tkg
 rw [this]
 rfl
theorem tkL_tb {t M N : Nat} {E L : List FV} : ∀ q, TB t M N (tkL E L) q → TB t M N E q := by
 rintro q (h | h | h | ⟨a, ha, h⟩)
 · exact .inl h
 · exact .inr (.inl h)
 · exact .inr (.inr (.inl h))
 · unfold tkL at ha
   obtain ⟨e, he, h2⟩ := List.mem_filterMap.1 ha
   exact .inr (.inr (.inr ⟨e, he, by rw [h, (tkg_x h2).2]⟩))
theorem endN_snoc (L : List FV) (s : FV) : endN (L ++ [s]) = endN L + (if s.n.le - 1 == 0 then 1 else 0) := by
 unfold endN
 rw [List.filter_append, List.length_append]
 cases h : s.n.le - 1 == 0 <;> simp [h]
theorem endN_le (L : List FV) : endN L ≤ L.length := List.length_filter_le _ _
theorem endN_perm {L E : List FV} (h : L.Perm E) : endN L = endN E := (h.filter _).length_eq
theorem perm_of : ∀ {L R : List FV}, Dj L → Dj R → (∀ s, s ∈ L ↔ s ∈ R) → L.Perm R
 | [], R, _, _, h => by
  cases R with
  | nil => exact List.Perm.refl _
  | cons a R => have := (h a).2 (by simp); cases this
 | a :: L, R, dl, dr, h => by
  obtain ⟨d1, d2⟩ := List.pairwise_cons.1 dl
  obtain ⟨R1, R2, rfl⟩ := List.append_of_mem ((h a).1 (by simp))
  obtain ⟨dr1, dr2, dr3⟩ := List.pairwise_append.1 dr
  obtain ⟨dr4, dr5⟩ := List.pairwise_cons.1 dr2
  refine List.Perm.trans (List.Perm.cons a (perm_of d2 (R := R1 ++ R2) ?_ (fun s => ?_))) List.perm_middle.symm
  · exact List.pairwise_append.2 ⟨dr1, dr5, fun x hx y hy => dr3 x hx y (List.mem_cons_of_mem _ hy)⟩
  · constructor
    · intro hs
      have h1 := (h s).1 (List.mem_cons_of_mem _ hs)
      rcases List.mem_append.1 h1 with e | e
      · exact List.mem_append_left _ e
      · rcases List.mem_cons.1 e with e | e
        · subst e
          have := d1 s hs
          rw [eqP_refl] at this; cases this
        · exact List.mem_append_right _ e
    · intro hs
      have hsR : s ∈ R1 ++ a :: R2 := by
       rcases List.mem_append.1 hs with e | e
       · exact List.mem_append_left _ e
       · exact List.mem_append_right _ (List.mem_cons_of_mem _ e)
      rcases List.mem_cons.1 ((h s).2 hsR) with e | e
      · subst e
        rcases List.mem_append.1 hs with e | e
        · have := dr3 s e s (by simp); rw [eqP_refl] at this; cases this
        · have := dr4 s e; rw [eqP_refl] at this; cases this
      · exact e
theorem len_sub {L E : List FV} (dj : Dj L) (h : ∀ s ∈ L, s ∈ E) : L.length ≤ E.length := by
 induction L generalizing E with
 | nil => simp
 | cons a L ih =>
  obtain ⟨d1, d2⟩ := List.pairwise_cons.1 dj
  obtain ⟨R1, R2, rfl⟩ := List.append_of_mem (h a (by simp))
  have := ih (E := R1 ++ R2) d2 (fun s hs => by
   have h1 := h s (List.mem_cons_of_mem _ hs)
   rcases List.mem_append.1 h1 with e | e
   · exact List.mem_append_left _ e
   · rcases List.mem_cons.1 e with e | e
     · subst e
       have := d1 s hs
       rw [eqP_refl] at this
       cases this
     · exact List.mem_append_right _ e)
  simp at this ⊢
  omega
structure RL (E L : List FV) (left : Lit → Bool) : Prop where
  sub : ∀ s ∈ L, s ∈ E
  dj : Dj L
  come : ∀ s ∈ E, ∀ kl, keyOf Tryz.prog 38 (.agg (tuC s.n.x)) = some kl → left kl = false → s ∈ L
  lft : ∀ kl, left kl = true → ∃ s ∈ E, keyOf Tryz.prog 38 (.agg (tuC s.n.x)) = some kl ∧ hasL L s = false
theorem RL.start {A : World} {M : Nat} {D : DataW Value} {E : List FV} (h : MA A M D (E.map FV.kp)) : RL E [] (Maps.has D) := by
 refine ⟨(fun s hs => by cases hs), List.Pairwise.nil, fun s hs kl hk hf => ?_, fun kl hl => ?_⟩
 · rw [(h.hs s.n.x kl hk).1, fnd_fF, fF_mem h.edj hs (eqP_refl _)] at hf
   cases hf
 · obtain ⟨r, hr, hk⟩ := h.ks kl hl
   obtain ⟨s, hs, rfl⟩ := List.mem_map.1 hr
   exact ⟨s, hs, hk, rfl⟩
theorem RL.next {E L : List FV} {left left' : Lit → Bool} {s : FV} {kl : Lit} (h : RL E L left) (dj : Dj E) (hs : s ∈ E) (hk : keyOf Tryz.prog 38 (.agg (tuC s.n.x)) = some kl) (hn : hasL L s = false) (hl : ∀ z, left' z = true ↔ (left z = true ∧ z.sameKey kl = false)) : RL E (L ++ [s]) left' := by
 have far : ∀ a ∈ L, eqP a.n.x s.n.x = false := fun a ha => by
  unfold hasL at hn
  rw [List.any_eq_false] at hn
  simpa using hn a ha
 refine ⟨fun q hq => ?_, ?_, fun q hq kq hkq hlq => ?_, fun kq hkq => ?_⟩
 · rcases List.mem_append.1 hq with e | e
   · exact h.sub q e
   · simp only [List.mem_singleton] at e; subst e; exact hs
 · refine List.pairwise_append.2 ⟨h.dj, by simp, fun a ha b hb => ?_⟩
   simp only [List.mem_singleton] at hb; subst hb; exact far a ha
 · by_cases e0 : left kq = true
   · have e : kq.sameKey kl = true := by
      cases e1 : kq.sameKey kl with
      | true => rfl
      | false =>
       have := (hl kq).2 ⟨e0, e1⟩
       rw [hlq] at this
       cases this
     have e1 : kq = kl := WideAt.sameKey_eq e
     subst e1
     have e2 := lawR.inj hkq hk
     have e3 : tuC q.n.x = tuC s.n.x := by simpa using e2
     rw [dj_one dj hq hs ((eqP_iff _ _).2 e3)]
     simp
   · exact List.mem_append_left _ (h.come q hq kq hkq (by simpa using e0))
 · obtain ⟨h1, h2⟩ := (hl kq).1 hkq
   obtain ⟨q, hq, hkq2, hnq⟩ := h.lft kq h1
   refine ⟨q, hq, hkq2, ?_⟩
   rw [hasL_snoc, hnq, Bool.false_or]
   rw [Bool.eq_false_iff]
   intro e
   have e3 := (eqP_iff _ _).1 e
   rw [← e3, hk] at hkq2
   obtain rfl := Option.some.inj hkq2
   rw [WideAt.sameKey_self (key_lit hk)] at h2
   cases h2
theorem RL.done {E L : List FV} {left : Lit → Bool} (h : RL E L left) (dj : Dj E) (hw : ∀ e ∈ E, e.n.x.Wf) (h0 : ∀ kl, left kl = false) : (∀ s ∈ E, s ∈ L) ∧ L.Perm E := by
 have h1 : ∀ s ∈ E, s ∈ L := fun s hs => by
  obtain ⟨kl, hk⟩ := kv_key s.n.x (hw s hs)
  exact h.come s hs kl hk (h0 kl)
 exact ⟨h1, perm_of h.dj dj (fun s => ⟨h.sub s, h1 s⟩)⟩
structure LeOk (e : FV) : Prop where
  lo : 1 ≤ e.n.le
  hi : e.n.le ≤ 1048576
set_option maxHeartbeats 3200000 in
set_option maxRecDepth 100000 in
theorem tick_any (t M N : Nat) (c : CF) (E : List FV) (w : World) (h : TA w t M N c E) (hl : E.length ≤ 4096) (hle : ∀ e ∈ E, LeOk e) : Calls Tryz.prog 17 #[.pointer (some ⟨t, 0, none⟩)] w fun r w' => r = .returned (.int .i64 (endN E : Nat)) ∧ TA w' t M N c (E.filterMap tk1) ∧ Ch (TB t M N E) w w' := by
 obtain ⟨D, hD⟩ := h.ma
 have HC : Hid (TA w t M N c E ∧ MA w M D (E.map FV.kp) ∧ E.length ≤ 4096 ∧ (∀ e ∈ E, LeOk e) ∧ Dj E) := ⟨h, hD, hl, hle, h.dj⟩
 have cm := TblAt.mp h.cb
 have HMO : Hid (w.ownsMap Tryz.prog 38 anyE M E.length D) := by have := hD.mo; rwa [List.length_map] at this
 clear h hD hl hle
 go_enter Tryz.func17, Tryz.ntmps17
 go_wp2_with (first | (refine wpList_range_own _ rfl (.tmp 9) 67 rfl 38 77 lawR Tryz.underlying67 anyE M E.length D rfl HMO.out ?_))
 intro w2 hrg2 hg2 hs2
 have b2 : Below w.heap.size w w2 := ⟨hg2.os, hg2.tape, hg2.output, hg2.size, fun k hk => hg2.block k hk (by simp)⟩
 obtain ⟨r, hr⟩ : ∃ r, r = w.heap.size := ⟨_, rfl⟩
 rw [← hr] at hrg2 ⊢
 have HRW : Hid (r = w.heap.size) := hr
 have HR0 : Hid (TA w2 t M N c (tkL E []) ∧ MA w2 M D ((tkL E []).map FV.kp) ∧ w2.ranges Tryz.prog 38 anyE M r E.length D (Maps.has D) (Maps.size D) ∧ RL E [] (Maps.has D) ∧ Ch (TB t M N E) w w2) := ⟨by rw [tkL_nil]; exact HC.out.1.below b2, by rw [tkL_nil]; exact HC.out.2.1.below b2, hrg2, RL.start HC.out.2.1, Ch.ofBelow b2⟩
 clear hrg2 hg2 hs2 b2 hr cm
 go_wp2_with fail
 go_loopw [3, 5] (fun l _ wr => ∃ (n : Nat) (L : List FV) (left : Lit → Bool) (cnt : Nat) (Dk : DataW Value), l = .int .i64 (n : Nat) ∧ Hid (n = endN L) ∧ Hid (TA wr t M N c (tkL E L) ∧ MA wr M Dk ((tkL E L).map FV.kp) ∧ wr.ranges Tryz.prog 38 anyE M r E.length Dk left cnt ∧ RL E L left ∧ Ch (TB t M N E) w wr)) (fun _ _ wr => wr.rangeLeft M r)
 case atStart => exact ⟨0, [], _, _, D, rfl, rfl, HR0⟩
 case round =>
  obtain ⟨n, L, left, cnt, Dk, rfl, HN, HR⟩ := hrel
  clear HR0
  go_wp2_with (first | (refine wpList_next_ranges (α := Value) (β := Value) _ rfl (.tmp 10) rfl 38 lawR anyE id id (fun k _ _ => ⟨k, rfl⟩) (fun v _ _ => ⟨v, rfl⟩) M r E.length Dk left cnt rfl HR.out.2.2.1 ?_ ?_))
  · intro hc0 hl0
    have HP : Hid (n = endN E ∧ tkL E L = E.filterMap tk1) := by
     obtain ⟨h1, h2⟩ := HR.out.2.2.2.1.done HC.out.2.2.2.2 HC.out.1.wf hl0
     exact ⟨by rw [HN.out, endN_perm h2], tkL_all h1⟩
    clear hc0 hl0
    go_wp2_with fail
    go_ret
    exact ⟨by rw [← HP.out.1]; rfl, by rw [← HP.out.2]; exact HR.out.1, HR.out.2.2.2.2⟩
  · intro key cv kl yd yp w3 cnt3 hkey hleft hR hat hrg3 hlt3 hg3 hs3 hen
    obtain ⟨s, hsE, hk, hnL⟩ := HR.out.2.2.2.1.lft kl hleft
    have hsT := tkL_mem hsE hnL
    have hcv : cv = .pointer (some ⟨s.P, 0, none⟩) := by
     have h1 := (HR.out.2.1.hs s.n.x kl hk).2
     rw [ptr_pt, fF_mem HR.out.1.dj hsT (eqP_refl _), hat] at h1
     have hy : (yd, yp) = ((.held cv, []) : DataW Value × List MemPlace) := by
      have : some ((DataW.held (id cv) : DataW Value), ([] : List MemPlace)) = some (yd, yp) := hR
      exact (Option.some.inj this).symm
     have hy1 : yd = .held cv := congrArg Prod.fst hy
     rw [hy1] at h1
     have h2 : (DataW.held cv : DataW Value) = .held (ptF (some s)) := h1
     simpa [ptF] using h2
    have hkv : key = .agg (tuC s.n.x) := lawR.inj hkey hk
    subst hcv hkv
    have k3 : Ch (fun q => q = r) wr w3 := (Ch.ofGrown hg3).mono (fun q _ hq => by have e : some r = some q := hq; simp at e; exact e.symm)
    have hrb : ∀ q, TB t M N E q → q ≠ r := fun q hq e => by have := HC.out.1.tlt q hq; have := HRW.out; omega
    have H3 : Hid (TA w3 t M N c (tkL E L) ∧ MA w3 M Dk ((tkL E L).map FV.kp) ∧ w3.ranges Tryz.prog 38 anyE M r E.length Dk (fun z => left z && !z.sameKey kl) cnt3 ∧ Ch (TB t M N E) w w3 ∧ cnt3 < cnt) := ⟨HR.out.1.ch k3 (fun q hq => hrb q (tkL_tb q hq)), HR.out.2.1.ch k3 (hrb M (.inr (.inl rfl))), hrg3, HR.out.2.2.2.2.trans k3 (fun q hq h => by have h' : q = r := h; have := HRW.out; omega), hlt3⟩
    have HS : Hid (s ∈ E ∧ s ∈ tkL E L ∧ hasL L s = false ∧ keyOf Tryz.prog 38 (.agg (tuC s.n.x)) = some kl ∧ LeOk s ∧ fF (tkL E L) s.n.x = some s) := ⟨hsE, hsT, hnL, hk, HC.out.2.2.2.1 s hsE, fF_mem HR.out.1.dj hsT (eqP_refl _)⟩
    have HLN : Hid (L.length < 4096) := by
     have h1 : (L ++ [s]).length ≤ E.length := len_sub (HR.out.2.2.2.1.next (left' := fun z => left z && !z.sameKey kl) HC.out.2.2.2.2 hsE hk hnL (fun z => by simp)).dj (HR.out.2.2.2.1.next (left' := fun z => left z && !z.sameKey kl) HC.out.2.2.2.2 hsE hk hnL (fun z => by simp)).sub
     have h2 := HC.out.2.2.1
     rw [List.length_append] at h1
     simp only [List.length_cons, List.length_nil] at h1
     show L.length < 4096
     omega
    clear hkey hleft hR hat hrg3 hlt3 hg3 hs3 hsE hsT hnL hk k3 hrb
    obtain ⟨lf, hlf⟩ : ∃ lf, s.n.le = lf := ⟨_, rfl⟩
    have c39 := (H3.out.1.en s HS.out.2.1).c39
    have f39 := (H3.out.1.en s HS.out.2.1).fz 39
    rw [hlf] at c39
    have HLF : Hid (s.n.le = lf) := hlf
    have wl : IntKind.i64.wrap (lf - 1) = lf - 1 := by have h1 := HS.out.2.2.2.2.1; have h2 := h1.lo; have h3 := h1.hi; rw [IntKind.wrap_i64]; omega
    clear hlf
    (try simp only [id] at hen ⊢)
    go_upto_region 6 with fail
    obtain ⟨w4, hw4⟩ : ∃ w4, w4 = w3.setCell ⟨s.P, 39, none⟩ (.int .i64 (lf - 1)) := ⟨_, rfl⟩
    rw [← hw4]
    have HMN : Hid (M ≠ s.P ∧ r ≠ s.P) := by
     refine ⟨fun e => (H3.out.1.nt.2.2 s HS.out.2.1).2.1 e.symm, fun e => ?_⟩
     have h1 := (HC.out.1.tlt s.P (.inr (.inr (.inr ⟨s, HS.out.1, rfl⟩))))
     have := HRW.out
     omega
    have H4 : Hid (TA w4 t M N c (updF (tkL E L) s.n.x s.dec) ∧ MA w4 M Dk ((updF (tkL E L) s.n.x s.dec).map FV.kp) ∧ w4.ranges Tryz.prog 38 anyE M r E.length Dk (fun z => left z && !z.sameKey kl) cnt3 ∧ Ch (TB t M N E) w w4 ∧ FloAt w4 s.P s.dec.n) := by
     have k4 := (Ch.refl (fun q => q = s.P) w3).set ⟨s.P, 39, none⟩ (.int .i64 (lf - 1)) rfl
     have hF := FloAt.set (H3.out.1.en s HS.out.2.1) 39 (.int .i64 (lf - 1)) (set_le _ _)
     rw [← hw4] at k4 hF
     have hF' : FloAt w4 s.P s.dec.n := by
      unfold FV.dec
      rw [HLF.out]
      exact hF
     refine ⟨TA.turned (A := w3) (e := s) (e' := s.dec) H3.out.1 HS.out.2.2.2.2.2 rfl rfl rfl k4 hF', ?_, ranges_ch H3.out.2.2.1 k4 HMN.out.1 HMN.out.2, H3.out.2.2.2.1.trans k4 (fun q _ h => .inr (.inr (.inr ⟨s, HS.out.1, h⟩))), hF'⟩
     rw [upd_map (e' := s.dec) H3.out.1.dj HS.out.2.2.2.2.2 rfl rfl]
     exact H3.out.2.1.ch k4 HMN.out.1
    have d39 := H4.out.2.2.2.2.c39
    unfold FV.dec at d39
    simp only at d39
    rw [HLF.out] at d39
    clear hw4 c39 f39
    obtain ⟨bz, hbz⟩ : ∃ bz, (lf - 1 == 0) = bz := ⟨_, rfl⟩
    have HBZ : Hid ((s.n.le - 1 == 0) = bz) := by show _ = _; rw [HLF.out]; exact hbz
    obtain ⟨NL, hNL⟩ : ∃ NL, NL = L ++ [s] := ⟨_, rfl⟩
    have HNL : Hid (NL = L ++ [s]) := hNL
    clear hNL
    cases bz with
    | false =>
     have HT1 : Hid (tk1 s = some s.dec) := by show _ = _; unfold tk1; rw [HBZ.out]; rfl
     go_wp2_with fail
     go_roundw
     case rel =>
      refine ⟨n, NL, (fun z => left z && !z.sameKey kl), cnt3, Dk, rfl, ?_, ?_⟩
      · show n = endN NL
        rw [HNL.out, endN_snoc, HBZ.out, HN.out]
        rfl
      · show _ ∧ _
        rw [HNL.out, ← tkL_upd HC.out.2.2.2.2 HS.out.1 HS.out.2.2.1 s.dec HT1.out]
        exact ⟨H4.out.1, H4.out.2.1, H4.out.2.2.1, HR.out.2.2.2.1.next HC.out.2.2.2.2 HS.out.1 HS.out.2.2.2.1 HS.out.2.2.1 (fun z => by simp), H4.out.2.2.2.1⟩
     case measure => rw [H4.out.2.2.1.left_eq, HR.out.2.2.1.left_eq]; exact H3.out.2.2.2.2
    | true =>
     have HT1 : Hid (tk1 s = none) := by show _ = _; unfold tk1; rw [HBZ.out]; rfl
     have HSD : Hid (s.dec ∈ updF (tkL E L) s.n.x s.dec) := by
      unfold updF
      exact List.mem_map.2 ⟨s, HS.out.2.1, by rw [eqP_refl]; rfl⟩
     have QE : Hid _ := end_any t M N c (updF (tkL E L) s.n.x s.dec) w4 H4.out.1 s.dec HSD.out Dk H4.out.2.1
     have HWN : Hid (n ≤ 4096) := by have h1 := HN.out; have h2 := endN_le L; have h3 := HLN.out; show n ≤ 4096; omega
     have wn : IntKind.i64.wrap ((n : Int) + 1) = (n : Int) + 1 := by have := HWN.out; rw [IntKind.wrap_i64]; omega
     go_wp2_with fail
     refine Calls.mono QE.out ?_
     rintro e5 w5 ⟨rfl, hTA5, k5, kl5, hkl5, hMA5, hRg5⟩
     have H5 : Hid (TA w5 t M N c (tkL E NL) ∧ (∃ D5, MA w5 M D5 ((tkL E NL).map FV.kp) ∧ ∃ cnt5 left5, cnt5 < cnt ∧ w5.ranges Tryz.prog 38 anyE M r E.length D5 left5 cnt5 ∧ RL E NL left5) ∧ Ch (TB t M N E) w w5) := by
      have hd : delF (updF (tkL E L) s.n.x s.dec) s.dec.n.x = tkL E NL := by
       rw [HNL.out]
       exact tkL_del HC.out.2.2.2.2 HS.out.1 HS.out.2.2.1 s.dec rfl HT1.out
      rw [hd] at hTA5 hMA5
      have hkk : kl5 = kl := by
       have h1 : keyOf Tryz.prog 38 (.agg (tuC s.n.x)) = some kl5 := hkl5
       rw [HS.out.2.2.2.1] at h1
       exact (Option.some.inj h1).symm
      subst hkk
      obtain ⟨cnt5, hc5, hr5⟩ := hRg5 r E.length _ cnt3 H4.out.2.2.1
      refine ⟨hTA5, ⟨_, hMA5, cnt5, _, Nat.lt_of_le_of_lt hc5 H3.out.2.2.2.2, hr5, ?_⟩, H4.out.2.2.2.1.trans k5 (fun q _ h => h.elim (fun h => .inr (.inl h)) (fun h => .inr (.inr (.inl h))))⟩
      rw [HNL.out]
      exact HR.out.2.2.2.1.next HC.out.2.2.2.2 HS.out.1 HS.out.2.2.2.1 HS.out.2.2.1 (fun z => by simp)
     clear hTA5 k5 hkl5 hMA5 hRg5 QE
     go_wp2_with fail
     go_roundw
     case rel =>
      obtain ⟨h1, ⟨D5, h2, cnt5, left5, h3, h4, h5⟩, h6⟩ := H5.out
      refine ⟨n + 1, NL, left5, cnt5, D5, by first | rfl | go_num | simp, ?_, ⟨h1, h2, h4, h5, h6⟩⟩
      show n + 1 = endN NL
      rw [HNL.out, endN_snoc, HBZ.out, HN.out]
      rfl
     case measure =>
      obtain ⟨h1, ⟨D5, h2, cnt5, left5, h3, h4, h5⟩, h6⟩ := H5.out
      rw [h4.left_eq, HR.out.2.2.1.left_eq]
      exact h3
end Go.Proofs.YtclpeepnngegaaaGreatDoor
namespace Go.Proofs.YtclpeepnngegaaaGreatDoor
open Go.RowKit Go.Maps
def Gr (w w' : World) : Prop := Below w.heap.size w w' ∧ w.drawn ≤ w'.drawn
theorem Gr.trans {a b c : World} (h : Gr a b) (k : Gr b c) : Gr a c := ⟨bthen h.1 k.1, Nat.le_trans h.2 k.2⟩
theorem Gr.grow {w w' : World} (h : Gr w w') : ∃ q os', w' = Go.Sort.grow (w.drewN q) os' := by
 obtain ⟨hb, hd⟩ := h
 refine ⟨w'.drawn - w.drawn, w'.heap.extract w.heap.size w'.heap.size, ?_⟩
 have hh : w'.heap = w.heap ++ w'.heap.extract w.heap.size w'.heap.size := by
  apply Array.ext_getElem?
  intro i
  by_cases hi : i < w.heap.size
  · rw [Array.getElem?_append_left hi, hb.block i hi]
  · rw [Array.getElem?_append_right (by omega), Array.getElem?_extract]
    by_cases h2 : i < w'.heap.size
    · rw [if_pos (by omega), show w.heap.size + (i - w.heap.size) = i by omega]
    · rw [if_neg (by omega), Array.getElem?_eq_none (by omega)]
 obtain ⟨heap, tape, drawn, os, output⟩ := w'
 have h1 := hb.os
 have h2 := hb.tape
 have h3 := hb.output
 simp only at h1 h2 h3 hh hd
 subst h1 h2 h3
 simp only [Go.Sort.grow, World.drewN, World.mk.injEq, true_and, and_true]
 exact ⟨hh, by omega⟩
def by16 (x : Nat → Nat) : List UInt8 := Lib.bytesOf (toI (ipL x 16))
theorem by16_len (x : Nat → Nat) : (by16 x).length = 16 := by simp [by16, Lib.bytesOf, toI, ipL]
theorem same_by16 (x y : Nat → Nat) (h : same16 x y = true) : by16 x = by16 y := by
 rw [same16_iff] at h
 unfold by16
 congr 2
 unfold ipL
 apply List.map_congr_left
 intro i hi
 exact h i (by simpa using hi)
theorem cmp_self : ∀ l : List UInt8, Lib.compareBytes l l = 0
 | [] => rfl
 | a :: l => by simp [Lib.compareBytes, cmp_self l]
theorem cmp_eq0 : ∀ a b : List UInt8, a.length = b.length → (¬ Lib.compareBytes a b < 0) → (¬ Lib.compareBytes b a < 0) → a = b
 | [], [], _, _, _ => rfl
 | [], _ :: _, h, _, _ => by simp at h
 | _ :: _, [], h, _, _ => by simp at h
 | a :: ra, b :: rb, h, h1, h2 => by
  simp only [Lib.compareBytes] at h1 h2
  by_cases p : a < b
  · simp [p] at h1
  · by_cases q : b < a
    · simp [q] at h2
    · rw [if_neg p, if_neg q] at h1
      rw [if_neg q, if_neg p] at h2
      have e : a = b := UInt8.le_antisymm (UInt8.not_lt.1 q) (UInt8.not_lt.1 p)
      rw [e, cmp_eq0 ra rb (by simpa using h) h1 h2]
theorem cmp_asym : ∀ a b : List UInt8, Lib.compareBytes a b < 0 → ¬ Lib.compareBytes b a < 0
 | [], [], h => by simp [Lib.compareBytes] at h
 | [], _ :: _, _ => by simp [Lib.compareBytes]
 | _ :: _, [], h => by simp [Lib.compareBytes] at h
 | a :: ra, b :: rb, h => by
  simp only [Lib.compareBytes] at h ⊢
  by_cases p : a < b
  · have q : ¬ b < a := fun q => UInt8.lt_irrefl _ (UInt8.lt_trans p q)
    rw [if_neg q, if_pos p]; omega
  · by_cases q : b < a
    · rw [if_neg p, if_pos q] at h; omega
    · rw [if_neg p, if_neg q] at h
      rw [if_neg q, if_neg p]
      exact cmp_asym ra rb h
theorem cmp_trans : ∀ a b c : List UInt8, Lib.compareBytes a b < 0 → Lib.compareBytes b c < 0 → Lib.compareBytes a c < 0
 | [], [], _, h, _ => by simp [Lib.compareBytes] at h
 | _ :: _, [], _, h, _ => by simp [Lib.compareBytes] at h
 | _, _ :: _, [], _, h => by simp [Lib.compareBytes] at h
 | [], _ :: _, _ :: _, _, _ => by simp [Lib.compareBytes]
 | a :: ra, b :: rb, c :: rc, h1, h2 => by
  simp only [Lib.compareBytes] at h1 h2 ⊢
  by_cases p : a < b
  · by_cases q : b < c
    · rw [if_pos (UInt8.lt_trans p q)]; omega
    · rw [if_neg q] at h2
      by_cases q' : c < b
      · rw [if_pos q'] at h2; omega
      · have e : b = c := UInt8.le_antisymm (UInt8.not_lt.1 q') (UInt8.not_lt.1 q)
        subst e
        rw [if_pos p]; omega
  · rw [if_neg p] at h1
    by_cases p' : b < a
    · rw [if_pos p'] at h1; omega
    · rw [if_neg p'] at h1
      have e : a = b := UInt8.le_antisymm (UInt8.not_lt.1 p') (UInt8.not_lt.1 p)
      subst e
      by_cases q : a < c
      · rw [if_pos q]; omega
      · rw [if_neg q] at h2 ⊢
        by_cases q' : c < a
        · rw [if_pos q'] at h2; omega
        · rw [if_neg q'] at h2 ⊢
          exact cmp_trans ra rb rc h1 h2
theorem run_compareRow (w : World) (b b' o o' c c' : Nat) (xs ys : List Int) (hx : ∀ i, i < xs.length → w.cell? ⟨b, o + i, none⟩ = some (.int .u8 (xs.getD i 0))) (hy : ∀ i, i < ys.length → w.cell? ⟨b', o' + i, none⟩ = some (.int .u8 (ys.getD i 0))) :
 (Extern.BytealgCompare.compare #[.slice (some ⟨b, o, none⟩) xs.length c, .slice (some ⟨b', o', none⟩) ys.length c']).run Tryz.prog w = .ok (.int .i64 (Lib.compareBytes (Lib.bytesOf xs) (Lib.bytesOf ys))) w := by
 have key : ∀ (q p : Nat) (zs : List Int), (∀ i, i < zs.length → w.cell? ⟨q, p + i, none⟩ = some (.int .u8 (zs.getD i 0))) → (Extern.Bytes.loadBytes ⟨q, p, none⟩ zs.length .empty).run Tryz.prog w = .ok ⟨(Lib.bytesOf zs).toArray⟩ w := fun q p zs hz => by
  have hl := Lib.run_loadBytesX (P := Tryz.prog) w zs ⟨q, p, none⟩ .empty (fun j x hj => by
   have hjl : j < zs.length := (List.getElem?_eq_some_iff.1 hj).1
   have e : (⟨q, p, none⟩ : Addr).add j = ⟨q, p + j, none⟩ := by unfold Addr.add; split <;> simp_all
   rw [e, hz j hjl, List.getD_eq_getElem?_getD, hj]
   rfl)
  rw [hl]
  congr 1
  apply ByteArray.ext
  simp
 change Sem.run Tryz.prog (do pure (goInt (Extern.BytealgCompare.cmp (← Extern.Bytes.bytesOf (.slice (some ⟨b, o, none⟩) xs.length c)) (← Extern.Bytes.bytesOf (.slice (some ⟨b', o', none⟩) ys.length c'))))) w = _
 simp only [Extern.Bytes.bytesOf, Sem.run_bind, Sem.run_pure, Result.andThen, key b o xs hx, key b' o' ys hy]
 rw [Lib.cmp_eq]
 simp [goInt]
set_option maxHeartbeats 800000 in
set_option maxRecDepth 100000 in
theorem compare_any (w : World) (b b' o o' c c' : Nat) (xs ys : List Int) (hx : ∀ i, i < xs.length → w.cell? ⟨b, o + i, none⟩ = some (.int .u8 (xs.getD i 0))) (hy : ∀ i, i < ys.length → w.cell? ⟨b', o' + i, none⟩ = some (.int .u8 (ys.getD i 0))) :
 Calls Tryz.prog 94 #[.slice (some ⟨b, o, none⟩) xs.length c, .slice (some ⟨b', o', none⟩) ys.length c'] w fun e w' => e = .returned (.int .i64 (Lib.compareBytes (Lib.bytesOf xs) (Lib.bytesOf ys))) ∧ w = w' := by
 have HR : Hid _ := run_compareRow w b b' o o' c c' xs ys hx hy
 clear hx hy
 go_enter Tryz.func94, Tryz.ntmps94
 go_wp2
 rw [run_callFunc_extern Tryz.func99 (by kernel_rfl) (by kernel_rfl) (by kernel_rfl) (e := Extern.BytealgCompare.compare) (by kernel_rfl), HR.out]
 simp only [Result.andThen]
 rw [Oper.upon_value]
 go_wp2
 go_ret
 exact ⟨rfl, rfl⟩
def lessB (V U : Int) (x y : Nat → Nat) : Bool := if V = U then decide (Lib.compareBytes (by16 x) (by16 y) < 0) else decide (V < U)
set_option maxHeartbeats 1600000 in
set_option maxRecDepth 100000 in
theorem less_gr (V U : Int) (x y : Nat → Nat) (w : World) :
 Calls Tryz.prog 81 #[.agg (ipCells V x), .agg (ipCells U y)] w fun e w' => e = .returned (.bool (lessB V U x y)) ∧ Gr w w' := by
 obtain ⟨L, hL⟩ : ∃ L, L = lessB V U x y := ⟨_, rfl⟩
 rw [← hL]
 have HL : Hid (L = lessB V U x y) := hL
 clear hL
 have hx1 := boxed_new w V x 24
 have hy1 := boxed_new (w.alloc (.cells (ipCells V x) 24)) U y 24
 have hb1 : Below w.heap.size w ((w.alloc (.cells (ipCells V x) 24)).alloc (.cells (ipCells U y) 24)) := ((Below.refl _ _).alloc (Nat.le_refl _) _).alloc (by simp) _
 have hx2 := hx1.old ((Below.refl _ _).alloc (Nat.le_refl _) (.cells (ipCells U y) 24))
 clear hx1
 rw [World.size_alloc] at hy1
 obtain ⟨A, hA⟩ : ∃ A, A = ipCells V x := ⟨_, rfl⟩
 obtain ⟨C, hC⟩ : ∃ C, C = ipCells U y := ⟨_, rfl⟩
 rw [← hA] at hx2 hy1 hb1 ⊢
 rw [← hC] at hx2 hy1 hb1 ⊢
 clear hA hC
 go_enter Tryz.func81, Tryz.ntmps81
 go_upto_region 1 with fail
 obtain ⟨W, hW⟩ : ∃ W, W = (w.alloc (.cells A 24)).alloc (.cells C 24) := ⟨_, rfl⟩
 have HDR : Hid (W.drawn = w.drawn) := by show _ = _; rw [hW]; rfl
 rw [← hW] at hx2 hy1 hb1 ⊢
 clear hW
 obtain ⟨B, hB⟩ : ∃ B, B = w.heap.size := ⟨_, rfl⟩
 rw [← hB] at hx2 hy1 ⊢
 clear hB
 have v1 := hx2.ver
 have v2 := hy1.ver
 by_cases hVU : V = U
 · have e : lessB V U x y = decide (Lib.compareBytes (by16 x) (by16 y) < 0) := if_pos hVU
   have HL2 : Hid (L = decide (Lib.compareBytes (by16 x) (by16 y) < 0)) := HL.out.trans e
   have HC : Hid _ := compare_any W.drew B (B + 1) 1 1 16 16 (toI (ipL x 16)) (toI (ipL y 16)) (fun i hi => by
    rw [toI_len, ipL_len] at hi
    rw [toI_getD]
    show W.cell? _ = _
    rw [hx2.byte i hi]
    simp [ipL, List.getD, hi]) (fun i hi => by
    rw [toI_len, ipL_len] at hi
    rw [toI_getD]
    show W.cell? _ = _
    rw [hy1.byte i hi]
    simp [ipL, List.getD, hi])
   rw [show (toI (ipL x 16)).length = 16 from by rw [toI_len, ipL_len], show (toI (ipL y 16)).length = 16 from by rw [toI_len, ipL_len]] at HC
   subst hVU
   have hb2 : Below w.heap.size w W.drew := hb1.drew
   obtain ⟨cmp, hcmp⟩ : ∃ cmp, cmp = Lib.compareBytes (by16 x) (by16 y) := ⟨_, rfl⟩
   rw [← hcmp] at HL2
   have HE : Hid (Lib.compareBytes (Lib.bytesOf (toI (ipL x 16))) (Lib.bytesOf (toI (ipL y 16))) = cmp) := hcmp.symm
   clear e hcmp hx2 hy1
   go_wp2
   go_region_with (go_at_call 94; refine Calls.mono HC.out ?_; rintro e w' ⟨rfl, rfl⟩; rw [HE.out])
   all_goals
    go_wp2
    go_ret
    exact ⟨by rw [HL2.out]; rfl, hb2, by show w.drawn ≤ W.drawn + 1; rw [HDR.out]; omega⟩
 · have e : lessB V U x y = decide (V < U) := if_neg hVU
   have HL2 : Hid (L = decide (V < U)) := HL.out.trans e
   have hne : (V != U) = true := by simpa using hVU
   clear e hVU hx2 hy1
   go_wp2
   go_ret
   exact ⟨by rw [HL2.out]; rfl, hb1, by rw [HDR.out]; exact Nat.le_refl _⟩
theorem cmpI_any (a b : Int) (w : World) : Calls Tryz.prog 61 #[.int .i64 a, .int .i64 b] w fun e w' => e = .returned (.int .i64 (if a < b then -1 else if b < a then 1 else 0)) ∧ w = w' := by
 by_cases h1 : a < b
 · rw [if_pos h1]
   go_enter Tryz.func61, Tryz.ntmps61
   go_wp2
   go_ret
   exact ⟨rfl, rfl⟩
 · by_cases h2 : b < a
   · rw [if_neg h1, if_pos h2]
     go_enter Tryz.func61, Tryz.ntmps61
     go_wp2
     go_ret
     exact ⟨rfl, rfl⟩
   · rw [if_neg h1, if_neg h2]
     go_enter Tryz.func61, Tryz.ntmps61
     go_wp2
     go_ret
     exact ⟨rfl, rfl⟩
end Go.Proofs.YtclpeepnngegaaaGreatDoor
