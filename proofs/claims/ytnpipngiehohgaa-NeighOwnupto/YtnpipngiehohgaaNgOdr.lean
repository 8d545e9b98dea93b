/-
  Layer 15: older: all entries one tick older; the keys of those that are due, in order.
-/
import Derived.Test.YtnpipngiehohgaaNgNil
namespace Go.Proofs.Ytnpipngiehohgaa
open Go.RowKit Go.Maps

def ag1 (c : CF) (e : EV) : EV := ⟨oldN c e.n, e.P, e.lv⟩
def inL (L : List EV) (e : EV) : Bool := L.any (fun a => eqP a.n.k e.n.k)
def oldL (c : CF) (E L : List EV) : List EV := E.map (fun e => if inL L e then ag1 c e else e)
def dueL (c : CF) (L : List EV) : List KV := (L.filter (fun e => dueB c e.n)).map (fun e => e.n.k)
theorem oldN_k (c : CF) (n : EN) : (oldN c n).k = n.k := by unfold oldN; split <;> rfl
theorem oldN_ln (c : CF) (n : EN) : (oldN c n).ln = n.ln := by unfold oldN; split <;> rfl
theorem oldL_nil (c : CF) (E : List EV) : oldL c E [] = E := by
  unfold oldL inL
  simp
theorem inL_snoc (L : List EV) (s e : EV) : inL (L ++ [s]) e = (inL L e || eqP s.n.k e.n.k) := by
  unfold inL
  simp [List.any_append]
theorem inL_far {L : List EV} {s : EV} (h : ∀ a ∈ L, eqP a.n.k s.n.k = false) : inL L s = false := by
  unfold inL
  rw [List.any_eq_false]
  intro a ha
  rw [h a ha]
  decide
theorem inL_mem {L : List EV} {e : EV} (h : e ∈ L) : inL L e = true := by
  unfold inL
  rw [List.any_eq_true]
  exact ⟨e, h, eqP_refl _⟩
theorem oldL_dj {c : CF} {E L : List EV} (d : Dj E) : Dj (oldL c E L) := by
  unfold oldL
  show List.Pairwise _ _
  rw [List.pairwise_map]
  refine List.Pairwise.imp (fun {a b} h => ?_) d
  have key : ∀ e : EV, (if inL L e then ag1 c e else e).n.k = e.n.k := fun e => by split <;> first | rfl | exact oldN_k c e.n
  rw [key, key]
  exact h
theorem oldL_mem {c : CF} {E L : List EV} {s : EV} (hs : s ∈ E) (hf : inL L s = false) : s ∈ oldL c E L := by
  unfold oldL
  rw [List.mem_map]
  exact ⟨s, hs, by rw [hf]; rfl⟩
theorem oldL_fE {c : CF} {E L : List EV} {s : EV} (d : Dj E) (hs : s ∈ E) (hf : inL L s = false) : fE (oldL c E L) s.n.k = some s := fE_mem (oldL_dj d) (oldL_mem hs hf) (eqP_refl _)
theorem oldL_upd {c : CF} {E L : List EV} {s : EV} (d : Dj E) (hs : s ∈ E) : updE (oldL c E L) s.n.k (ag1 c s) = oldL c E (L ++ [s]) := by
  unfold updE oldL
  rw [List.map_map]
  apply List.map_congr_left
  intro e he
  simp only [Function.comp]
  have key : (if inL L e then ag1 c e else e).n.k = e.n.k := by split <;> first | rfl | exact oldN_k c e.n
  rw [key, inL_snoc]
  by_cases h : eqP e.n.k s.n.k = true
  · have h1 := fE_mem d he h
    have h2 := fE_mem d hs (eqP_refl s.n.k)
    rw [h1] at h2
    have e1 : e = s := Option.some.inj h2
    subst e1
    rw [if_pos h, eqP_refl]
    simp
  · rw [if_neg h, eqP_comm, show eqP e.n.k s.n.k = false by simpa using h]
    simp
theorem oldL_all {c : CF} {E L : List EV} (h : L.Perm E) : oldL c E L = E.map (ag1 c) := by
  unfold oldL
  apply List.map_congr_left
  intro e he
  rw [inL_mem (h.mem_iff.2 he)]
  rfl
theorem oldL_kp (c : CF) (E L : List EV) : (oldL c E L).map EV.kp = E.map EV.kp := by
  unfold oldL
  rw [List.map_map]
  apply List.map_congr_left
  intro e _
  simp only [Function.comp]
  split
  · unfold EV.kp ag1; rw [oldN_k]
  · rfl
theorem dueL_snoc (c : CF) (L : List EV) (s : EV) : dueL c (L ++ [s]) = dueL c L ++ (if dueB c s.n then [s.n.k] else []) := by
  unfold dueL
  rw [List.filter_append, List.map_append]
  congr 1
  cases h : dueB c s.n <;> simp [h]
theorem dueL_perm {c : CF} {L E : List EV} (h : L.Perm E) : (dueL c L).Perm (dueL c E) := (h.filter _).map _
theorem dueL_len (c : CF) (L : List EV) : (dueL c L).length ≤ L.length := by
  unfold dueL
  rw [List.length_map]
  exact List.length_filter_le _ _
/-- the entries' own blocks -/
def EB (E : List EV) (q : Nat) : Prop := ∃ e ∈ E, q = e.P
theorem oldL_cb {c : CF} {t M : Nat} {E L : List EV} : ∀ q, CB t M (oldL c E L) q → CB t M E q := by
  rintro q (h | h | ⟨a, ha, h⟩)
  · exact .inl h
  · exact .inr (.inl h)
  · unfold oldL at ha
    obtain ⟨e, he, rfl⟩ := List.mem_map.1 ha
    refine .inr (.inr ⟨e, he, ?_⟩)
    split at h
    · exact h
    · exact h
/-- a row of keys, an iterator: none of the cache's blocks -/
theorem key_apart {A : World} {t M B : Nat} {c : CF} {E : List EV} {cc : Array Value} (h : CA A t M c E) (hm : A.heap[B]? = some (.cells cc 98 (0, 0))) : ∀ q, CB t M E q → q ≠ B := fun q hq e => by
  rw [← e] at hm
  rcases hq with rfl | rfl | ⟨e0, he0, rfl | h0⟩
  · have h3 := h.cb; unfold CchAt at h3; rw [hm] at h3; simp only [Option.some.injEq, Obj.cells.injEq] at h3; exact absurd h3.2.1 (by decide)
  · obtain ⟨es, ck, h3⟩ := h.mblk; rw [hm] at h3; cases h3
  · have h3 := h.en e0 he0; unfold EntAt at h3; rw [hm] at h3; simp only [Option.some.injEq, Obj.cells.injEq] at h3; exact absurd h3.2.1 (by decide)
  · obtain ⟨dd, h3⟩ := (h.li e0 he0).kind q h0; rw [hm] at h3; simp only [Option.some.injEq, Obj.cells.injEq] at h3; exact absurd h3.2.1 (by decide)
theorem iter_apart {A : World} {t M B : Nat} {c : CF} {E : List EV} {x1 : Option Nat} {x2 : Nat} {x3 : Array Nat} {x4 : Nat} (h : CA A t M c E) (hm : A.heap[B]? = some (.mapIter x1 x2 x3 x4)) : ∀ q, CB t M E q → q ≠ B := fun q hq e => by
  rw [← e] at hm
  rcases hq with rfl | rfl | ⟨e0, he0, rfl | h0⟩
  · have h3 := h.cb; unfold CchAt at h3; rw [hm] at h3; cases h3
  · obtain ⟨es, ck, h3⟩ := h.mblk; rw [hm] at h3; cases h3
  · have h3 := h.en e0 he0; unfold EntAt at h3; rw [hm] at h3; cases h3
  · obtain ⟨dd, h3⟩ := (h.li e0 he0).kind q h0; rw [hm] at h3; cases h3
theorem sort_any (A : World) (base : Nat) (v : Value) (L : List KV) (h : KL A base v L) (hl : L.length ≤ 1024) : Calls Try.prog 54 #[v, .func (.func 55) #[] #[]] A fun e w' => e = .returned (.tuple #[]) ∧ ∃ L', L'.Perm L ∧ L'.Pairwise (fun a b => 0 ≤ ordV b a) ∧ KL w' base v L' ∧ Ch (fun q => v.ownBlock = some q) A w' := by
  rcases h.2 with ⟨rfl, h0⟩ | ⟨g, cap, cur, rfl, _⟩
  · have hL : L = [] := List.eq_nil_of_length_eq_zero h0
    subst hL
    refine (sort_nil _ A).mono ?_
    rintro e w' ⟨rfl, rfl⟩
    exact ⟨rfl, [], List.Perm.refl _, List.Pairwise.nil, h, Ch.refl _ _⟩
  · exact sorts A base _ L h ⟨g, cap, rfl⟩ hl
set_option maxHeartbeats 6400000 in
set_option maxRecDepth 100000 in
theorem olderC_any (t M : Nat) (c : CF) (E : List EV) (w : World) (h : CA w t M c E) (hl : E.length ≤ 1024) (ha : ∀ e ∈ E, 0 ≤ e.n.ag ∧ e.n.ag ≤ 1048576) : Calls Try.prog 53 #[.pointer (some ⟨t, 0, none⟩)] w fun r w' => ∃ v, r = .returned v ∧ ∃ K, KL w' w.heap.size v K ∧ K.Perm (dueL c E) ∧ K.Pairwise (fun a b => 0 ≤ ordV b a) ∧ CA w' t M c (E.map (ag1 c)) ∧ Ch (EB E) w w' := by
  obtain ⟨D, hD⟩ := h.ma
  have HC : Hid (CA w t M c E ∧ MA w M D (E.map EV.kp) ∧ E.length ≤ 1024 ∧ (∀ e ∈ E, 0 ≤ e.n.ag ∧ e.n.ag ≤ 1048576) ∧ Dj E) := ⟨h, hD, hl, ha, h.dj⟩
  have cm := h.cb.mp
  clear h hD hl ha
  go_enter Try.func53, Try.ntmps53
  go_wp2_with (first | (refine wpList_range_own _ rfl (.tmp 9) 100 rfl 98 99 lawR Try.underlying100 anyE M E.length D rfl HC.out.2.1.mo' ?_))
  intro w2 hrg2 hg2 hs2
  have b2 : Below w.heap.size w w2 := ⟨hg2.os, hg2.tape, hg2.output, hg2.size, fun k hk => hg2.block k hk (by simp)⟩
  obtain ⟨r, hr⟩ : ∃ r, r = w.heap.size := ⟨_, rfl⟩
  rw [← hr] at hrg2 ⊢
  have HRW : Hid (r = w.heap.size) := hr
  have HR0 : Hid (RS w2 M D E r [] (Maps.has D) (Maps.size D) ∧ CA w2 t M c (oldL c E []) ∧ Ch (EB E) w w2 ∧ KL w2 w.heap.size (.slice none 0 0) (dueL c [])) := ⟨RS.start (HC.out.2.1.below b2) hrg2, by rw [oldL_nil]; exact HC.out.1.below b2, Ch.ofBelow b2, KL.nil _ _⟩
  clear hrg2 hg2 hs2 b2 hr cm
  go_wp2_with fail
  go_loopw [3] (fun l wr => ∃ (v : Value) (L : List EV) (left : Lit → Bool) (cnt : Nat), v = l ∧ Hid (RS wr M D E r L left cnt ∧ CA wr t M c (oldL c E L) ∧ Ch (EB E) w wr ∧ KL wr w.heap.size v (dueL c L))) (fun _ wr => wr.rangeLeft M r)
  case atStart => exact ⟨_, [], _, _, rfl, HR0⟩
  case round =>
    obtain ⟨v, L, left, cnt, rfl, HR⟩ := hrel
    clear HR0
    go_wp2_with (first | (refine wpList_next_ranges (α := Value) (β := Value) _ rfl (.tmp 10) rfl 98 lawR anyE id id (fun k _ _ => ⟨k, rfl⟩) (fun v _ _ => ⟨v, rfl⟩) M r E.length D left cnt rfl HR.out.1.rg ?_ ?_))
    · intro hc0 hl0
      have hp := HR.out.1.done hl0
      have QS : Hid _ := sort_any wr w.heap.size v (dueL c L) HR.out.2.2.2 (by have h1 := dueL_len c L; have h2 := hp.length_eq; have h3 := HC.out.2.2.1; omega)
      have HP : Hid (L.Perm E) := hp
      obtain ⟨va, vc, hvf⟩ := HR.out.2.2.2.form
      obtain ⟨nd, hnd⟩ : ∃ nd, nd = (dueL c L).length := ⟨_, rfl⟩
      rw [← hnd] at hvf
      subst hvf
      clear hc0 hl0 hp hnd
      go_wp2_with fail
      refine Calls.mono QS.out ?_
      rintro e w9 ⟨rfl, K, hp, hso, hKL, kk⟩
      have HE : Hid (KL w9 w.heap.size (.slice va nd vc) K ∧ K.Perm (dueL c E) ∧ K.Pairwise (fun a b => 0 ≤ ordV b a) ∧ CA w9 t M c (E.map (ag1 c)) ∧ Ch (EB E) w w9) := by
        have hcl := HR.out.2.2.2.cells
        have hCA := HR.out.2.1
        rw [oldL_all HP.out] at hCA
        refine ⟨hKL, hp.trans (dueL_perm HP.out), hso, hCA.ch kk (fun q hq e0 => ?_), HR.out.2.2.1.trans kk (fun q h1 h2 => by have := (hcl q h2).1; omega)⟩
        obtain ⟨_, _, cc, hcc⟩ := hcl q e0
        exact key_apart hCA hcc q hq rfl
      clear hp hso hKL kk QS
      go_wp2_with fail
      go_ret
      exact ⟨_, rfl, K, HE.out⟩
    · intro key cv kl yd yp w3 cnt3 hkey hleft hR hat hrg3 hlt3 hg3 hs3 hen
      obtain ⟨s, hsE, hkv, hcv, hnL, hfar, hRS⟩ := HR.out.1.next (y := (yd, yp)) hkey hleft hR hat hrg3 hg3
      have hcv' : cv = .pointer (some ⟨s.P, 0, none⟩) := hcv
      have hkv' : key = .agg (kC s.n.k) := hkv
      subst hcv' hkv'
      have kg := Ch.ofGrown hg3
      have hrw := HRW.out
      have itr := ranges_it HR.out.1.rg
      have hCA : CA w3 t M c (oldL c E L) := HR.out.2.1.ch kg (fun q hq e => by
        have e' : r = q := by have e2 : some r = some q := e; simpa using e2
        obtain ⟨_, _, _, _, hit⟩ := itr
        rw [e'] at hit
        exact iter_apart HR.out.2.1 hit q hq rfl)
      have hK3 : KL w3 w.heap.size v (dueL c L) := HR.out.2.2.2.ch kg (fun g hg e => by
        have e' : r = g := by have e2 : some r = some g := e; simpa using e2
        obtain ⟨_, _, _, _, hit⟩ := itr
        obtain ⟨_, _, cc, hcc⟩ := HR.out.2.2.2.cells g hg
        rw [e', hcc] at hit
        cases hit)
      have hCh : Ch (EB E) w w3 := HR.out.2.2.1.trans kg (fun q h1 h2 => by have e2 : some r = some q := h2; simp at e2; omega)
      have HX : Hid (RS w3 M D E r (L ++ [s]) (fun z => left z && !z.sameKey kl) cnt3 ∧ CA w3 t M c (oldL c E L) ∧ Ch (EB E) w w3 ∧ KL w3 w.heap.size v (dueL c L) ∧ cnt3 < cnt ∧ s ∈ E ∧ inL L s = false ∧ (dueL c L).length ≤ 100000) := ⟨hRS, hCA, hCh, hK3, hlt3, hsE, inL_far hfar, by
        have h1 := dueL_len c L
        have h2 := len_sub HR.out.1.dj HR.out.1.sub
        have h3 := HC.out.2.2.1
        omega⟩
      clear hkv hcv hnL hfar hRS hCA hkey hleft hR hat hrg3 hlt3 hg3 hs3 kg hrw hK3 hCh hsE itr
      (try simp only [id] at hen ⊢)
      go_wp2_with (first | (refine wpList_alloc_key rfl rfl ?_) | (refine wpList_store_key (.tmp 4) (.tmp 14) rfl rfl w3.heap.size kz s.n.k rfl rfl (key_new w3 kz) rfl ?_))
      intro w4 hR4 k4
      have bz : Below w3.heap.size w3 (w3.alloc (.cells (kC kz) 98)) := (Below.refl _ _).alloc (Nat.le_refl _) _
      have b4 : Below w3.heap.size w3 w4 := bz.trans (k4.below (fun q e => by have e' : q = w3.heap.size := e; omega) bz.size)
      obtain ⟨O4, hO4⟩ : ∃ O, O = w3.heap.size := ⟨_, rfl⟩
      rw [← hO4] at hR4 ⊢
      have H4 : Hid (RS w4 M D E r (L ++ [s]) (fun z => left z && !z.sameKey kl) cnt3 ∧ CA w4 t M c (oldL c E L) ∧ Ch (EB E) w w4 ∧ KL w4 w.heap.size v (dueL c L) ∧ KeyAt w4 O4 s.n.k ∧ EntAt w4 s) := ⟨HX.out.1.below b4, HX.out.2.1.below b4, HX.out.2.2.1.trans (Ch.ofBelow (S := fun _ => False) b4) (fun _ _ h => h.elim), HX.out.2.2.2.1.below b4, hR4, (HX.out.2.1.below b4).en s (oldL_mem HX.out.2.2.2.2.2.1 HX.out.2.2.2.2.2.2.1)⟩
      have HS : Hid (cnt3 < cnt ∧ s ∈ E ∧ inL L s = false ∧ (dueL c L).length ≤ 100000) := HX.out.2.2.2.2
      have QO : Hid _ := older_any s c w4 H4.out.2.2.2.2.2 (HC.out.2.2.2.1 s HS.out.2.1)
      obtain ⟨db, hdb⟩ : ∃ db, dueB c s.n = db := ⟨_, rfl⟩
      rw [hdb] at QO
      have HDB : Hid (dueB c s.n = db) := hdb
      have HCF : Hid (w4.rangeAt t 0 (cfC c).toList) := CchAt.cf H4.out.2.1.cb
      clear hR4 k4 bz b4 hen hO4 HX hdb
      go_wp2_with (first | (refine wpList_mid_cfg (.tmp 19) rfl t 0 c rfl HCF.out rfl ?_))
      refine Calls.mono QO.out ?_
      rintro rr w5 ⟨rfl, hE5, k5⟩
      have k5' : Ch (fun q => q = s.P ∨ s.lv.ownBlock = some q) w4 w5 := k5.mono (fun _ _ h => .inl h)
      have hsm : s ∈ oldL c E L := oldL_mem HS.out.2.1 HS.out.2.2.1
      have hnt := (H4.out.2.1.nt.2.1 s hsm)
      have hLN : LnAt w5 s.lv s.n.ln := k5.owns (H4.out.2.1.li s hsm) (fun g hg q => hnt.2.2 s hsm (by have q' : g = s.P := q; rw [hg, q']))
      have hCA5 : CA w5 t M c (oldL c E (L ++ [s])) := by
        rw [← oldL_upd HC.out.2.2.2.2 HS.out.2.1]
        exact H4.out.2.1.turned (e' := ag1 c s) (oldL_fE HC.out.2.2.2.2 HS.out.2.1 HS.out.2.2.1) (oldN_k c s.n) rfl k5' hE5 (by show LnAt w5 s.lv (oldN c s.n).ln; rw [oldN_ln]; exact hLN) (fun g hg => .inl hg)
      have H5 : Hid (RS w5 M D E r (L ++ [s]) (fun z => left z && !z.sameKey kl) cnt3 ∧ CA w5 t M c (oldL c E (L ++ [s])) ∧ Ch (EB E) w w5 ∧ KL w5 w.heap.size v (dueL c L) ∧ KeyAt w5 O4 s.n.k) := by
        have hen : EntAt w4 s := H4.out.2.2.2.2.2
        have hkind : ∀ (q : Nat) (cc : Array Value), w4.heap[q]? = some (.cells cc 98 (0, 0)) → q ≠ s.P := fun q cc hq e => by
          unfold EntAt at hen
          rw [e, hen] at hq
          simp only [Option.some.injEq, Obj.cells.injEq] at hq
          exact absurd hq.2.1 (by decide)
        refine ⟨H4.out.1.ch k5 (fun e => hnt.2.1 e.symm) (fun e => ?_), hCA5, H4.out.2.2.1.trans k5 (fun q _ hq => ⟨s, HS.out.2.1, hq⟩), H4.out.2.2.2.1.ch k5 (fun g hg e => ?_), H4.out.2.2.2.2.1.ch k5 (fun e => ?_)⟩
        · obtain ⟨_, _, _, _, hit⟩ := ranges_it H4.out.1.rg
          unfold EntAt at hen
          have e' : r = s.P := e
          rw [e', hen] at hit
          cases hit
        · obtain ⟨_, _, cc, hcc⟩ := H4.out.2.2.2.1.cells g hg
          exact hkind g cc hcc e
        · have h1 := H4.out.2.2.2.2.1
          unfold KeyAt at h1
          exact hkind O4 _ h1 e
      clear hE5 k5 k5' hsm hnt hLN hCA5 QO HCF H4
      cases db with
      | false =>
        have HDL : Hid (dueL c (L ++ [s]) = dueL c L) := by show _ = _; rw [dueL_snoc, HDB.out]; simp
        go_wp2_with fail
        go_roundw
        case rel => exact ⟨v, L ++ [s], _, _, rfl, H5.out.1, H5.out.2.1, H5.out.2.2.1, by rw [HDL.out]; exact H5.out.2.2.2.1⟩
        case measure => rw [H5.out.1.rg.left_eq, HR.out.1.rg.left_eq]; exact HS.out.1
      | true =>
        have HDL : Hid (dueL c (L ++ [s]) = dueL c L ++ [s.n.k]) := by show _ = _; rw [dueL_snoc, HDB.out]; simp
        have bn : Below w5.heap.size w5 (w5.alloc (.cells (kC s.n.k) 98)) := (Below.refl _ _).alloc (Nat.le_refl _) _
        have HN : Hid (KL (w5.alloc (.cells (kC s.n.k) 98)) w.heap.size v (dueL c L) ∧ KeyAt (w5.alloc (.cells (kC s.n.k) 98)) w5.heap.size s.n.k ∧ Below w5.heap.size w5 (w5.alloc (.cells (kC s.n.k) 98)) ∧ w.heap.size ≤ (w5.alloc (.cells (kC s.n.k) 98)).heap.size) := ⟨H5.out.2.2.2.1.below bn, key_new _ _, bn, Nat.le_trans H5.out.2.2.1.size bn.size⟩
        clear bn
        go_wp2_with (first | (refine wpList_load_key (.tmp 4) rfl O4 s.n.k rfl H5.out.2.2.2.2 rfl ?_) | (refine wpList_bs1k (.tmp 23) rfl s.n.k rfl rfl ?_) | (refine wpList_app1k rfl (.tmp 22) (.tmp 24) rfl w.heap.size v (dueL c L) rfl HN.out.1 w5.heap.size s.n.k rfl HN.out.2.1 HS.out.2.2.2 HN.out.2.2.2 ?_))
        intro v' w6 hl6 hg6 hv6
        have H6 : Hid (RS w6 M D E r (L ++ [s]) (fun z => left z && !z.sameKey kl) cnt3 ∧ CA w6 t M c (oldL c E (L ++ [s])) ∧ Ch (EB E) w w6 ∧ KL w6 w.heap.size v' (dueL c L ++ [s.n.k])) := by
          have k6 := Ch.ofGrown hg6
          have hcl := HN.out.1.cells
          have hCA := H5.out.2.1.below HN.out.2.2.1
          have hRS := H5.out.1.below HN.out.2.2.1
          refine ⟨hRS.ch k6 (fun e => ?_) (fun e => ?_), hCA.ch k6 (fun q hq e => ?_), (H5.out.2.2.1.trans (Ch.ofBelow (S := fun _ => False) HN.out.2.2.1) (fun _ _ h => h.elim)).trans k6 (fun q h1 h2 => by have := (hcl q h2).1; omega), hl6⟩
          · obtain ⟨_, _, cc, hcc⟩ := hcl M e
            exact key_apart hCA hcc M (.inr (.inl rfl)) rfl
          · obtain ⟨_, _, cc, hcc⟩ := hcl r e
            obtain ⟨_, _, _, _, hit⟩ := ranges_it hRS.rg
            rw [hcc] at hit
            cases hit
          · obtain ⟨_, _, cc, hcc⟩ := hcl q e
            exact key_apart hCA hcc q hq rfl
        clear hl6 hg6 hv6
        go_wp2_with fail
        go_roundw
        case rel => exact ⟨v', L ++ [s], _, _, rfl, H6.out.1, H6.out.2.1, H6.out.2.2.1, by rw [HDL.out]; exact H6.out.2.2.2⟩
        case measure => rw [H6.out.1.rg.left_eq, HR.out.1.rg.left_eq]; exact HS.out.1
end Go.Proofs.Ytnpipngiehohgaa
