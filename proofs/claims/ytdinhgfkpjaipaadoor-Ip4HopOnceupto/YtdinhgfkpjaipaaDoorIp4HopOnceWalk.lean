/-
  Ip4HopOnce: the walk.
-/
import Derived.Test.YtdinhgfkpjaipaaDoorI4Start2
import Derived.Test.YtdinhgfkpjaipaaDoorI4Win
namespace Go.Proofs.YtdinhgfkpjaipaaDoor
open Go.RowKit
open I4 (H4)

theorem canon_hop (bs : List Nat) (t : I4.Taken bs) (h8 : 2 ≤ bs.getD 8 0) (h256 : ∀ x ∈ bs, x < 256) (c : canon bs = true) : canon (I4.hop bs) = true := by
  unfold canon at c ⊢
  rw [Bool.and_eq_true, decide_eq_true_eq, decide_eq_true_eq] at c ⊢
  exact ⟨(I4.pE_zero _).2 (I4.hop_taken t h8 h256), I4.hop_canon t h8 h256 c.2⟩
theorem H4At.set5 {w : World} {O : Nat} {h : H4} {ol dl : Value} (k : H4At w O h ol dl) (x : Int) : H4At (w.setCell ⟨O, 5, none⟩ (.int .i64 x)) O { h with ttl := x } ol dl ∧ Ch (fun q => q = O) w (w.setCell ⟨O, 5, none⟩ (.int .i64 x)) := by
  refine ⟨?_, (Ch.refl _ _).set _ _ rfl⟩
  unfold H4At at k ⊢
  rw [heap_setCell_same _ _ _ _ _ _ k]
  rfl
theorem yields_u8 {ops : Array Oper} {o : Oper} {a : Act} {S : World → Prop} (x : Operand) (ho : o.op = .load 5 x) (p : Addr) (u : Value) (hx : a.eval x = .pointer (some p)) (hw : Region.wanted o (yielded ops a.tmps) = true) (hS : ∀ w, S w → w.cell? p = some u) : YieldsIf Tryd.prog ops S o u a := by
  refine .inl ⟨hw, fun w hb => ?_⟩
  have hc := hS w hb
  have hu := Tryd.underlying5
  obtain ⟨dst, op, type, pos, after, guard⟩ := o
  simp only at ho
  subst ho
  simp only [execOp, Sem.run_bind, Sem.run_pure]
  rw [hx]
  simp [Instr.loadAt, go_sem, hc]
theorem own_in {w : World} {B lo hi : Nat} {e : TypeId} {s n m c : Nat} {a : Option Addr} {xs : List Value} (h : w.ownsRow B e s (.slice a n c) m xs) (k : ∀ x, a = some x → lo ≤ x.block ∧ x.block < hi) (q : Nat) (hq : (Value.slice a n c).ownBlock = some q) : lo ≤ q ∧ q < hi := by
  rcases h.2 with ⟨e0, _⟩ | ⟨g, cp, cur, e0, hg, _⟩
  · rw [e0] at hq; simp [Value.ownBlock] at hq
  · simp only [Value.slice.injEq] at e0
    have h1 := k _ e0.1
    rw [e0.1] at hq
    simp [Value.ownBlock] at hq
    subst hq
    exact h1
set_option maxHeartbeats 6400000 in
set_option maxRecDepth 100000 in
theorem ip4HopOnce.walk (w : World) (hw : Wid w) (a : Option Addr) (n cap : Nat) (z : List Int) (h : IsRow .u8 w a n cap z) (hcap : cap ≤ 1048576) :
    Calls Tryd.prog 9 #[.slice a n cap] w fun e w' => e = .returned (.bool true) ∧ Below w.heap.size w w' := by
  obtain ⟨bs, hl, hs, h1, h2, h3⟩ := h.bytes
  have HN : Hid (bs.length = n) := hl
  have hnm : n ≤ 1048576 := by omega
  have H256 : Hid (∀ x ∈ bs, x < 256) := h3
  have HSEG : Hid (∀ A, Below w.heap.size w A → Seg .u8 A a (toI bs)) := fun A hA => hs.old hA
  have HWID : Hid (∀ A, Below w.heap.size w A → Wid A) := fun A hA => hw.old hA
  have QS : Hid _ := started_any w hw
  have HCOP : Hid (∀ A, Below w.heap.size w A → Calls Tryd.prog 27 #[.slice a n cap] A fun e w' => ∃ v, e = .returned v ∧ w'.ownsRow A.heap.size 5 1 v n ((toI bs).map (Value.int .u8)) ∧ Below A.heap.size A w') := fun A hA => copied_any a n cap bs A hl (hs.old hA) (by omega)
  obtain ⟨E, hE⟩ : ∃ E, E = I4.pE bs := ⟨_, rfl⟩
  have HE : Hid (E = I4.pE bs) := hE
  clear hl hs h1 h2 h3 hw hE h
  go_enter Tryd.func9, Tryd.ntmps9
  go_wp2_with fail
  refine Calls.mono QS.out ?_
  rintro e w1 ⟨rfl, bel1⟩
  clear QS
  go_wp2_with fail
  refine Calls.mono (HCOP.out w1 bel1) ?_
  rintro e w2 ⟨v4, rfl, ho4, hb2⟩
  have bel2 := bthen bel1 hb2
  obtain ⟨a4, c4, rfl⟩ := owns_shape ho4
  go_wp2_with fail
  refine Calls.mono (HCOP.out w2 bel2) ?_
  rintro e w3 ⟨v5, rfl, ho5, hb3⟩
  have bel3 := bthen bel2 hb3
  obtain ⟨a5, c5, rfl⟩ := owns_shape ho5
  have HA4 : Hid (∀ x, a4 = some x → w1.heap.size ≤ x.block ∧ x.block < w2.heap.size) := fun x hx => own_blk ho4 x hx
  have HA5 : Hid (∀ x, a5 = some x → w2.heap.size ≤ x.block ∧ x.block < w3.heap.size) := fun x hx => own_blk ho5 x hx
  have HO4 : Hid (w3.ownsRow w1.heap.size 5 1 (.slice a4 n c4) n ((toI bs).map (Value.int .u8))) := owns_below ho4 hb3
  have HO5 : Hid (w3.ownsRow w2.heap.size 5 1 (.slice a5 n c5) n ((toI bs).map (Value.int .u8))) := ho5
  have HSZ : Hid (w1.heap.size ≤ w2.heap.size ∧ w2.heap.size ≤ w3.heap.size) := ⟨hb2.size, hb3.size⟩
  have HB0 : Hid (w.heap.size ≤ w1.heap.size) := bel1.size
  have hcp4 := (owns_at HO4.out).2
  have hcp5 := (owns_at HO5.out).2
  have QP : Hid _ := parse_two a4 c4 n bs w3 HN.out (HWID.out w3 bel3) (owns_at HO4.out).1 H256.out hcp4.1 hcp4.2
  rw [← HE.out] at QP
  clear ho4 ho5 hb2 hb3 bel1 bel2
  go_wp2_with fail
  refine Calls.mono QP.out ?_
  rintro e w4 ⟨C, rfl, hb4, hres⟩
  have bel4 := bthen bel3 hb4
  have HO4b : Hid (w4.ownsRow w1.heap.size 5 1 (.slice a4 n c4) n ((toI bs).map (Value.int .u8))) := owns_below HO4.out hb4
  have HO5b : Hid (w4.ownsRow w2.heap.size 5 1 (.slice a5 n c5) n ((toI bs).map (Value.int .u8))) := owns_below HO5.out hb4
  have HSZ4 : Hid (w3.heap.size ≤ w4.heap.size) := hb4.size
  clear QP HO4 HO5 hb4 bel3
  rcases hres with ⟨hne, rfl⟩ | ⟨h0, hrd⟩
  · have b1 : ((E : Int) != 0) = true := by rw [bne_iff_ne]; omega
    have HNE : Hid (I4.pE bs ≠ 0) := by rw [← HE.out]; exact hne
    clear hne
    go_wp2_with (first | (refine wpList_alloc_h4 rfl rfl ?_) | (refine wpList_store_h4 (.tmp 6) (.tmp 21) rfl rfl w4.heap.size h4z h4z nilS nilS nilS nilS rfl rfl rfl rfl (h4At_new _ _ _ _) rfl ?_))
    intro w5 hP5 k5
    have sb := stored_below k5
    have bel5 := bthen bel4 sb
    have HO45 : Hid (w5.ownsRow w1.heap.size 5 1 (.slice a4 n c4) n ((toI bs).map (Value.int .u8))) := owns_below HO4b.out sb
    have HO55 : Hid (w5.ownsRow w2.heap.size 5 1 (.slice a5 n c5) n ((toI bs).map (Value.int .u8))) := owns_below HO5b.out sb
    have QH : Hid _ := hop_bad a5 c5 n bs w5 HN.out (HWID.out w5 bel5) (owns_at HO55.out).1 H256.out hcp5.1 hcp5.2 HNE.out
    rw [← HE.out] at QH
    clear hP5 k5 sb HO4b HO5b bel4
    go_wp2_with fail
    refine Calls.mono QH.out ?_
    rintro e w6 ⟨rfl, hb6⟩
    have bel6 := bthen bel5 hb6
    have QA : Hid _ := alike_any a5 a4 n n c5 c4 bs bs w6 HN.out HN.out (owns_at (owns_below HO55.out hb6)).1 (owns_at (owns_below HO45.out hb6)).1 H256.out H256.out
    rw [decide_eq_true rfl] at QA
    have ee : ((E : Int) == (E : Int)) = true := by simp
    clear QH hb6 HO45 HO55 bel5
    go_wp2_with fail
    refine Calls.mono (num_any E w6) ?_
    rintro e w7 ⟨rfl, rfl⟩
    go_wp2_with fail
    refine Calls.mono (num_any E w6) ?_
    rintro e w7 ⟨rfl, rfl⟩
    go_wp2_with fail
    refine Calls.mono (num_any E w6) ?_
    rintro e w7 ⟨rfl, rfl⟩
    go_wp2_with fail
    refine Calls.mono QA.out ?_
    rintro e w7 ⟨rfl, rfl⟩
    go_wp2
    go_ret
    exact ⟨rfl, bel6⟩
  subst h0
  obtain ⟨la, K, lc, os, rfl, hok, how⟩ := hrd.ex
  have tk := hrd.tk
  obtain ⟨may, hlen⟩ := tk.may H256.out
  have HTK : Hid (I4.Taken bs) := tk
  have hn20 : 20 ≤ n := by have h1 := tk.hd; have h2 := tk.hd2; have h3 := tk.tl; have h4 := HN.out; omega
  have HRB : Hid (∀ o ∈ os, ∀ x, o.a = some x → ∃ y, a4 = some y ∧ x.block = y.block) := fun o ho x hx => by
    obtain ⟨y, hy, e⟩ := read_blk how hok.opts hok.ol o ho x hx
    obtain ⟨y2, hy2, e2⟩ := optA_blk hy
    exact ⟨y2, hy2, e.trans e2⟩
  have HLA : Hid (∀ x, la = some x → w3.heap.size ≤ x.block) := fun x hx => (own_blk how x hx).1
  obtain ⟨dA, hdA⟩ : ∃ dA, dA = cutA a4 (I4.hdL bs) (I4.tlL bs - I4.hdL bs) := ⟨_, rfl⟩
  obtain ⟨dn, hdn⟩ : ∃ dn, dn = I4.tlL bs - I4.hdL bs := ⟨_, rfl⟩
  have HDA : Hid (∀ x, dA = some x → ∃ y, a4 = some y ∧ x.block = y.block) := fun x hx => by rw [hdA] at hx; exact cutA_blk hx
  rw [← hdA, ← hdn] at hok ⊢
  have HOK : Hid (H4Ok w4 (I4.pH bs) la K lc os dA dn dn) := hok
  have hKs : K ≤ 40 := by
    have h1 := tk.flat H256.out
    have h2 := hok.ol
    have h3 := congrArg List.length hok.hos
    simp only [vals, List.length_map] at h3
    have key : ∀ l : List (Int × List Nat), l.length ≤ (I4.flatI l).length := by
      intro l
      unfold I4.flatI
      induction l with
      | nil => simp [I4.flatO]
      | cons o l ih => rw [List.map_cons, I4.flatO_cons, List.length_cons]; omega
    have h4 := key (I4.pH bs).os
    have h5 := I4.hdL_le bs
    omega
  have HSM : Hid (dn ≤ 1048576 ∧ ∀ o ∈ os, o.d.length ≤ 1048576) := by
    have h3 := tk.le
    have h4 := tk.tl
    refine ⟨by omega, fun o ho => ?_⟩
    have h5 := (tk.flat H256.out).1
    rw [hok.hos] at h5
    have := List.all_eq_true.1 h5 o.val (List.mem_map.2 ⟨o, ho, rfl⟩)
    simp only [I4.okO, Bool.and_eq_true, decide_eq_true_eq] at this
    have h6 : o.d.length ≤ 38 := this.2
    omega
  have hokv : (I4.pH bs).os = vals os := hok.hos
  obtain ⟨b8, hb8⟩ : ∃ x, x = bs.getD 8 0 := ⟨_, rfl⟩
  have HB8 : Hid (b8 = bs.getD 8 0) := hb8
  have hb256 : b8 < 256 := by rw [hb8]; exact I4.getD_lt bs H256.out 8
  have HTTL : Hid ((I4.pH bs).ttl = (b8 : Int)) := by rw [hb8]; rfl
  have HPS : Hid ((∀ i, i < 16 → (I4.pH bs).sx i < 256) ∧ (∀ i, i < 16 → (I4.pH bs).dx i < 256)) := ⟨hok.sx, hok.dx⟩
  obtain ⟨P, hP⟩ : ∃ P, P = I4.pH bs := ⟨_, rfl⟩
  rw [← hP] at HOK HTTL hokv ⊢
  have HOKV : Hid (P.os = vals os) := hokv
  have HPP : Hid (P = I4.pH bs) := hP
  clear hdA hdn hok tk may hlen hrd hP how hb8 hokv
  go_wp2_with (first | (refine wpList_alloc_h4 rfl rfl ?_) | (refine wpList_store_h4 (.tmp 6) (.tmp 21) rfl rfl w4.heap.size h4z P nilS nilS (.slice la K lc) (.slice dA dn dn) rfl rfl rfl rfl (h4At_new _ _ _ _) rfl ?_))
  intro w5 hP5 k5
  have sb := stored_below k5
  have bel5 := bthen bel4 sb
  obtain ⟨O, hOO⟩ : ∃ O, O = w4.heap.size := ⟨_, rfl⟩
  rw [← hOO] at hP5 ⊢
  have HP5 : Hid (H4At w5 O P (.slice la K lc) (.slice dA dn dn)) := hP5
  have HOK5 : Hid (H4Ok w5 P la K lc os dA dn dn) := HOK.out.old sb
  have HO45 : Hid (w5.ownsRow w1.heap.size 5 1 (.slice a4 n c4) n ((toI bs).map (Value.int .u8))) := owns_below HO4b.out sb
  have HO55 : Hid (w5.ownsRow w2.heap.size 5 1 (.slice a5 n c5) n ((toI bs).map (Value.int .u8))) := owns_below HO5b.out sb
  have HOS : Hid (w3.heap.size ≤ O) := by rw [hOO]; exact HSZ4.out
  have QH : Hid _ := hopV_any a5 c5 n c5 n w2.heap.size bs [] w5 HN.out (by rw [List.append_nil]; exact HN.out) (HWID.out w5 bel5) (by rw [List.append_nil]; exact HO55.out) H256.out hcp5.1 hcp5.2
  simp only [List.append_nil] at QH
  clear hP5 k5 sb hOO HOK HO4b HO5b bel4
  by_cases hlo : b8 < 2
  · have HQ : Hid (hopE bs = 67 ∧ hopL bs = bs) := by
      have e1 : hopE bs = 67 := by unfold hopE; rw [← HE.out, if_neg (by simp), ← HB8.out, if_pos hlo]
      refine ⟨e1, ?_⟩
      unfold hopL
      rw [e1, if_neg (by decide)]
    rw [HQ.out.1, HQ.out.2] at QH
    have lo : (b8 : Int) < 2 := by omega
    have g5 : w5.cell? ⟨O, 5, none⟩ = some (.int .i64 (b8 : Int)) := by rw [← HTTL.out]; exact HP5.out.c5
    clear hlo
    go_wp2_with fail
    refine Calls.mono QH.out ?_
    rintro e w6 ⟨rfl, hc6, ho6⟩
    have HC6 : Hid (Ch (fun q => (Value.slice a5 n c5).ownBlock = some q) w5 w6) := hc6
    have hbk : ∀ q, (Value.slice a5 n c5).ownBlock = some q → w2.heap.size ≤ q ∧ q < w3.heap.size := fun q hq => own_in HO55.out HA5.out q hq
    have bel6 : Below w.heap.size w w6 := bel5.trans (hc6.below (fun q hq => by have := hbk q hq; have := HSZ.out; have := HB0.out; omega) bel5.size)
    have HO46 : Hid (w6.ownsRow w1.heap.size 5 1 (.slice a4 n c4) n ((toI bs).map (Value.int .u8))) := hc6.owns HO45.out (fun q hq e => by have h1 := hbk q e; have h2 := own_in HO45.out HA4.out q hq; omega)
    have g6 : w6.cell? ⟨O, 5, none⟩ = some (.int .i64 (b8 : Int)) := hc6.cell g5 (fun e => by have h9 : w2.heap.size ≤ O ∧ O < w3.heap.size := hbk _ e; have := HOS.out; omega)
    have QA : Hid _ := alike_any a5 a4 n n c5 c4 bs bs w6 HN.out HN.out (owns_at ho6).1 (owns_at HO46.out).1 H256.out H256.out
    rw [decide_eq_true rfl] at QA
    clear QH hc6 ho6 hbk bel5 HO45 HO55 HP5 HOK5 g5
    go_wp2_with fail
    refine Calls.mono (num_any 0 w6) ?_
    rintro e w7 ⟨rfl, rfl⟩
    go_wp2_with fail
    refine Calls.mono (num_any 67 w6) ?_
    rintro e w7 ⟨rfl, rfl⟩
    go_wp2_with fail
    refine Calls.mono QA.out ?_
    rintro e w7 ⟨rfl, rfl⟩
    go_wp2
    go_ret
    exact ⟨rfl, bel6⟩
  have hhi : 2 ≤ bs.getD 8 0 := by rw [← HB8.out]; omega
  have HQ : Hid (hopE bs = 0 ∧ hopL bs = I4.hop bs) := by
    have e1 : hopE bs = 0 := by unfold hopE; rw [← HE.out, if_neg (by simp), ← HB8.out, if_neg hlo]
    refine ⟨e1, ?_⟩
    unfold hopL
    rw [e1, if_pos rfl]
  rw [HQ.out.1, HQ.out.2] at QH
  have lo : ¬ (b8 : Int) < 2 := by omega
  have HHI : Hid (2 ≤ bs.getD 8 0) := hhi
  clear hlo hhi
  go_wp2_with fail
  refine Calls.mono QH.out ?_
  rintro e w6 ⟨rfl, hc6, ho6⟩
  have hbk : ∀ q, (Value.slice a5 n c5).ownBlock = some q → w2.heap.size ≤ q ∧ q < w3.heap.size := fun q hq => own_in HO55.out HA5.out q hq
  have bel6 : Below w.heap.size w w6 := bel5.trans (hc6.below (fun q hq => by have := hbk q hq; have := HSZ.out; have := HB0.out; omega) bel5.size)
  have HO46 : Hid (w6.ownsRow w1.heap.size 5 1 (.slice a4 n c4) n ((toI bs).map (Value.int .u8))) := hc6.owns HO45.out (fun q hq e => by have h1 := hbk q e; have h2 := own_in HO45.out HA4.out q hq; omega)
  have HP6 : Hid (H4At w6 O P (.slice la K lc) (.slice dA dn dn)) := H4At.ch HP5.out hc6 (fun e => by have h9 : w2.heap.size ≤ O ∧ O < w3.heap.size := hbk _ e; have := HOS.out; omega)
  have HOK6 : Hid (H4Ok w6 P la K lc os dA dn dn) := HOK5.out.ch hc6 (fun x hx e => by have h1 := hbk _ e; have h2 := HLA.out x hx; omega) (fun o ho x hx e => by have h1 := hbk _ e; obtain ⟨y, hy, e2⟩ := HRB.out o ho x hx; have h3 := HA4.out y hy; omega) (fun x hx e => by have h1 := hbk _ e; obtain ⟨y, hy, e2⟩ := HDA.out x hx; have h3 := HA4.out y hy; omega)
  have HO56 : Hid (w6.ownsRow w2.heap.size 5 1 (.slice a5 n c5) n ((toI (I4.hop bs)).map (Value.int .u8))) := ho6
  have g6 : w6.cell? ⟨O, 5, none⟩ = some (.int .i64 (b8 : Int)) := by rw [← HTTL.out]; exact HP6.out.c5
  obtain ⟨hs, hhs⟩ : ∃ hs, hs = I4.hop bs := ⟨_, rfl⟩
  have HHS : Hid (hs = I4.hop bs) := hhs
  have HHL : Hid (hs.length = n) := by show _ = _; rw [hhs, I4.hop_len]; exact HN.out
  have HH256 : Hid (∀ x ∈ hs, x < 256) := by rw [hhs]; exact I4.hop_256 bs H256.out
  have HHT : Hid (I4.Taken hs) := by rw [hhs]; exact I4.hop_taken HTK.out HHI.out H256.out
  have HHE : Hid (I4.pE hs = 0) := (I4.pE_zero _).2 HHT.out
  have HHQ : Hid (I4.Eqv (I4.pH hs) { P with ttl := (b8 : Int) - 1 }) := by
    have h1 := I4.hop_eq HTK.out HHI.out
    rw [HPP.out, hhs]
    have h2 : (I4.pH bs).ttl = (b8 : Int) := by rw [← HPP.out]; exact HTTL.out
    rw [h2] at h1
    exact h1
  have HHC : Hid (canon bs = true → canon hs = true) := by
    show canon bs = true → canon hs = true
    intro hc
    rw [hhs]
    exact canon_hop bs HTK.out HHI.out H256.out hc
  have HHG : Hid (∀ j, j ≠ 8 → j ≠ 10 → j ≠ 11 → hs.getD j 0 = bs.getD j 0) := by rw [hhs]; exact fun j h1 h2 h3 => I4.hop_get bs j h1 h2 h3
  rw [← hhs] at HO56
  have QP : Hid _ := parse_two a5 c5 n hs w6 HHL.out (HWID.out w6 bel6) (owns_at HO56.out).1 HH256.out hcp5.1 hcp5.2
  rw [HHE.out] at QP
  clear QH hc6 ho6 hbk bel5 HO45 HO55 HP5 HOK5 hhs
  go_wp2_with fail
  refine Calls.mono (num_any 0 w6) ?_
  rintro e w7 ⟨rfl, rfl⟩
  go_wp2_with fail
  refine Calls.mono QP.out ?_
  rintro e w7 ⟨C, rfl, hb7, hr7⟩
  rcases hr7 with ⟨hne, _⟩ | ⟨_, hrd7⟩
  case inl => exact absurd rfl hne
  obtain ⟨lx, K2, lc2, qs, rfl, hok7, _⟩ := hrd7.ex
  have bel7 := bthen bel6 hb7
  have hv : vals qs = vals os := by
    have h1 := hok7.hos
    rw [HHQ.out.os] at h1
    have h2 := HOK6.out.hos
    rw [← h1]; exact h2
  have hK2 : K2 = K := by
    have h1 := congrArg List.length hv
    simp only [vals, List.length_map] at h1
    rw [hok7.ol, HOK6.out.ol] at h1
    exact h1
  have hd2 : I4.tlL hs - I4.hdL hs = dn := by
    have h1 := hok7.dl
    rw [HHQ.out.data] at h1
    exact h1.symm.trans HOK6.out.dl
  rw [hd2] at hok7 ⊢
  subst hK2
  obtain ⟨dX, hdX⟩ : ∃ dX, dX = cutA a5 (I4.hdL hs) dn := ⟨_, rfl⟩
  rw [← hdX] at hok7 ⊢
  have HQO : Hid (OptsAt w7 lx qs) := hok7.opts
  have HQS : Hid (Seg .u8 w7 dX (toI P.data)) := by have := hok7.seg; rw [HHQ.out.data] at this; exact this
  have HQL : Hid (qs.length = K2) := hok7.ol
  have HV : Hid (vals qs = vals os) := hv
  rw [h4C_eqv HHQ.out]
  have HP7 : Hid (H4At w7 O P (.slice la K2 lc) (.slice dA dn dn)) := H4At.below HP6.out hb7
  have HOK7 : Hid (H4Ok w7 P la K2 lc os dA dn dn) := HOK6.out.old hb7
  have HO47 : Hid (w7.ownsRow w1.heap.size 5 1 (.slice a4 n c4) n ((toI bs).map (Value.int .u8))) := owns_below HO46.out hb7
  have HO57 : Hid (w7.ownsRow w2.heap.size 5 1 (.slice a5 n c5) n ((toI hs).map (Value.int .u8))) := owns_below HO56.out hb7
  obtain ⟨P1, hP1⟩ : ∃ P1 : H4, P1 = { P with ttl := (b8 : Int) - 1 } := ⟨_, rfl⟩
  rw [← hP1]
  have HP1 : Hid (P1 = { P with ttl := (b8 : Int) - 1 }) := hP1
  clear hb7 hrd7 hv hdX hd2 hok7 QP HP6 HOK6 HO46 HO56 bel6 g6 hP1
  go_wp2_with (first | (refine wpList_alloc_h4 rfl rfl ?_) | (refine wpList_store_h4 (.tmp 9) (.tmp 54) rfl rfl w7.heap.size h4z P1 nilS nilS (.slice lx K2 lc2) (.slice dX dn dn) rfl rfl rfl rfl (h4At_new _ _ _ _) rfl ?_))
  intro w8 hP8 k8
  have sb8 := stored_below k8
  have bel8 := bthen bel7 sb8
  obtain ⟨O3, hO3⟩ : ∃ O3, O3 = w7.heap.size := ⟨_, rfl⟩
  rw [← hO3] at hP8 ⊢
  have HX8 : Hid (H4At w8 O3 P1 (.slice lx K2 lc2) (.slice dX dn dn)) := hP8
  have HP8 : Hid (H4At w8 O P (.slice la K2 lc) (.slice dA dn dn)) := H4At.below HP7.out sb8
  have HOK8 : Hid (H4Ok w8 P la K2 lc os dA dn dn) := HOK7.out.old sb8
  have HQO8 : Hid (OptsAt w8 lx qs) := HQO.out.old sb8
  have HQS8 : Hid (Seg .u8 w8 dX (toI P.data)) := HQS.out.old sb8
  have HO48 : Hid (w8.ownsRow w1.heap.size 5 1 (.slice a4 n c4) n ((toI bs).map (Value.int .u8))) := owns_below HO47.out sb8
  have HO58 : Hid (w8.ownsRow w2.heap.size 5 1 (.slice a5 n c5) n ((toI hs).map (Value.int .u8))) := owns_below HO57.out sb8
  have QC : Hid _ := clone_any P la K2 lc os dA dn dn w8 HOK8.out (by omega) HSM.out.1 HSM.out.2
  clear hP8 k8 sb8 hO3 HP7 HOK7 HQO HQS HO47 HO57 bel7
  go_wp2_with (first | (refine wpList_load_h4 _ rfl O P (.slice la K2 lc) (.slice dA dn dn) rfl HP8.out rfl ?_))
  refine Calls.mono QC.out ?_
  rintro e w9 ⟨lb, mc, db, dc, rfl, hb9, ps, hk9⟩
  have bel9 := bthen bel8 hb9
  have HX9 : Hid (H4At w9 O3 P1 (.slice lx K2 lc2) (.slice dX dn dn)) := H4At.below HX8.out hb9
  have HP9 : Hid (H4At w9 O P (.slice la K2 lc) (.slice dA dn dn)) := H4At.below HP8.out hb9
  have HQO9 : Hid (OptsAt w9 lx qs) := HQO8.out.old hb9
  have HQS9 : Hid (Seg .u8 w9 dX (toI P.data)) := HQS8.out.old hb9
  have HO49 : Hid (w9.ownsRow w1.heap.size 5 1 (.slice a4 n c4) n ((toI bs).map (Value.int .u8))) := owns_below HO48.out hb9
  have HO59 : Hid (w9.ownsRow w2.heap.size 5 1 (.slice a5 n c5) n ((toI hs).map (Value.int .u8))) := owns_below HO58.out hb9
  have HK9 : Hid (H4Ok w9 P lb K2 mc ps db dn dc) := hk9
  clear QC hb9 hk9 HX8 HP8 HOK8 HQO8 HQS8 HO48 HO58 bel8
  go_wp2_with (first | (refine wpList_alloc_h4 rfl rfl ?_) | (refine wpList_store_h4 (.tmp 11) (.tmp 57) rfl rfl w9.heap.size h4z P nilS nilS (.slice lb K2 mc) (.slice db dn dc) rfl rfl rfl rfl (h4At_new _ _ _ _) rfl ?_))
  intro w10 hP10 k10
  have sb10 := stored_below k10
  have bel10 := bthen bel9 sb10
  obtain ⟨O4, hO4⟩ : ∃ O4, O4 = w9.heap.size := ⟨_, rfl⟩
  rw [← hO4] at hP10 ⊢
  have hs5 := H4At.set5 hP10 ((b8 : Int) - 1)
  have d5 := hP10.c5
  have z5 := hP10.fz 5
  have g10 : w10.cell? ⟨O, 5, none⟩ = some (.int .i64 (b8 : Int)) := by rw [← HTTL.out]; exact (H4At.below HP9.out sb10).c5
  have wt : IntKind.i64.wrap ((b8 : Int) - 1) = (b8 : Int) - 1 := by rw [IntKind.wrap_i64]; omega
  have HO4L : Hid (O4 = w9.heap.size) := hO4
  obtain ⟨w11, hw11⟩ : ∃ w11, w11 = w10.setCell ⟨O4, 5, none⟩ (.int .i64 ((b8 : Int) - 1)) := ⟨_, rfl⟩
  rw [← hw11] at hs5
  have E11 : Hid (w10.setCell ⟨O4, 5, none⟩ (.int .i64 ((b8 : Int) - 1)) = w11) := hw11.symm
  have sb11 : Below w9.heap.size w9 w11 := sb10.trans (hs5.2.below (fun q e => by have e' : q = O4 := e; omega) sb10.size)
  have HW11 : Hid (H4At w11 O4 P1 (.slice lb K2 mc) (.slice db dn dc)) := by
    have h1 := hs5.1
    rw [← HP1.out] at h1
    exact h1
  have HX11 : Hid (H4At w11 O3 P1 (.slice lx K2 lc2) (.slice dX dn dn)) := H4At.below HX9.out sb11
  have HQO11 : Hid (OptsAt w11 lx qs) := HQO9.out.old sb11
  have HQS11 : Hid (Seg .u8 w11 dX (toI P.data)) := HQS9.out.old sb11
  have HK11 : Hid (H4Ok w11 P lb K2 mc ps db dn dc) := HK9.out.old sb11
  have HO411 : Hid (w11.ownsRow w1.heap.size 5 1 (.slice a4 n c4) n ((toI bs).map (Value.int .u8))) := owns_below HO49.out sb11
  have HO511 : Hid (w11.ownsRow w2.heap.size 5 1 (.slice a5 n c5) n ((toI hs).map (Value.int .u8))) := owns_below HO59.out sb11
  have bel11 := bthen bel9 sb11
  have BEL11 : Hid (Below w.heap.size w w11) := bel11
  clear hP10 k10 sb10 hO4 hs5 hw11 sb11 HX9 HP9 HQO9 HQS9 HO49 HO59 HK9 bel9 bel10 bel11
  go_upto_region 15 with fail
  rw [E11.out]
  clear E11 d5 z5 g10 wt
  obtain ⟨b4, o4, rfl, hc4⟩ := seg_at (owns_at HO411.out).1 0 (by rw [HN.out]; omega)
  obtain ⟨b5, o5, rfl, hc5⟩ := seg_at (owns_at HO511.out).1 0 (by rw [HHL.out]; omega)
  have HC4 : Hid (∀ j, j < bs.length → w11.cell? ⟨b4, o4 + j, none⟩ = some (.int .u8 ((bs.getD j 0 : Nat) : Int))) := hc4
  have HC5 : Hid (∀ j, j < hs.length → w11.cell? ⟨b5, o5 + j, none⟩ = some (.int .u8 ((hs.getD j 0 : Nat) : Int))) := hc5
  have L45 : Hid (b4 < w11.heap.size ∧ b5 < w11.heap.size) := ⟨World.block_lt_of_cell? w11 _ (hc4 0 (by rw [HN.out]; omega)), World.block_lt_of_cell? w11 _ (hc5 0 (by rw [HHL.out]; omega))⟩
  clear hc4 hc5
  go_wp2
  go_loopw [12] (fun ix wr => ∃ k : Nat, ix = .int .i64 k ∧ k ≤ n ∧ Hid (Below w11.heap.size w11 wr)) (fun ix _ => n - (intOf ix).toNat)
  case atStart => exact ⟨0, rfl, Nat.zero_le _, Below.refl _ _⟩
  case round =>
    obtain ⟨k, rfl, hk, HBE⟩ := hrel
    by_cases hlt : k < n
    · have e4 := HC4.out k (by rw [HN.out]; exact hlt)
      have e5 := HC5.out k (by rw [HHL.out]; exact hlt)
      have x4 := I4.getD_lt bs H256.out k
      have x5 := I4.getD_lt hs HH256.out k
      have HG : Hid (k ≠ 8 → k ≠ 10 → k ≠ 11 → hs.getD k 0 = bs.getD k 0) := HHG.out k
      obtain ⟨x, hx⟩ : ∃ x, x = bs.getD k 0 := ⟨_, rfl⟩
      obtain ⟨y, hy⟩ : ∃ y, y = hs.getD k 0 := ⟨_, rfl⟩
      rw [← hx] at e4 x4 HG
      rw [← hy] at e5 x5 HG
      have k0 : (0 : Int) ≤ (k : Int) := by omega
      have k1 : (k : Int) < (n : Int) := by omega
      have k2 : ((k : Int)).toNat = k := by omega
      have wk : IntKind.i64.wrap ((k : Int) + 1) = (k : Int) + 1 := by rw [IntKind.wrap_i64]; omega
      have HE4 : Hid (∀ A, Below w11.heap.size w11 A → A.cell? ⟨b4, o4 + k, none⟩ = some (.int .u8 (x : Int))) := fun A hA => (hA.cell (p := ⟨b4, o4 + k, none⟩) L45.out.1).trans e4
      have HE5 : Hid (∀ A, Below w11.heap.size w11 A → A.cell? ⟨b5, o5 + k, none⟩ = some (.int .u8 (y : Int))) := fun A hA => (hA.cell (p := ⟨b5, o5 + k, none⟩) L45.out.2).trans e5
      clear hx hy e4 e5
      go_wp2
      refine MixH.start (fun x => Below w11.heap.size w11 x) (by kernel_rfl) ?_
      obtain ⟨wA, hwA⟩ : ∃ wA, wA = wr.drew := ⟨_, rfl⟩
      have hS : Below w11.heap.size w11 wA := by rw [hwA]; exact HBE.out.drew
      rw [← hwA]
      clear hwA HBE
      refine MixH.takes [true, true, true, false, true, true, true] 15 (by kernel_rfl) (by kernel_rfl) (by decide) (by kernel_rfl) hS (fun K hK => ?_)
      simp only [Mix.pick]
      repeat (go_big_quiet_step (fail))
      refine wpQuiet_nil (hK _ ?_)
      clear hK K
      refine MixH.take 14 3 _ (.int .u8 (y : Int)) rfl (by kernel_rfl) (by kernel_rfl) (by kernel_rfl) (by kernel_rfl) (yields_u8 (.tmp 70) rfl ⟨b5, o5 + k, none⟩ _ rfl rfl HE5.out) hS (fun a' ha => ?_)
      simp only [Act.put, List.setIfInBounds_toArray, List.set_cons_succ, List.set_cons_zero] at ha
      subst ha
      refine MixH.take 13 7 _ (.int .u8 (x : Int)) rfl (by kernel_rfl) (by kernel_rfl) (by kernel_rfl) (by kernel_rfl) (yields_u8 (.tmp 74) rfl ⟨b4, o4 + k, none⟩ _ rfl rfl HE4.out) hS (fun a' ha => ?_)
      simp only [Act.put, List.setIfInBounds_toArray, List.set_cons_succ, List.set_cons_zero] at ha
      subst ha
      by_cases hxy : y = x
      · have q1 : ((y : Int) != (x : Int)) = false := by simp [hxy]
        have q2 : (y != x) = false := by simp [hxy]
        clear hxy HG
        refine MixH.takes [false, false, false, false, false, false, false, false, true, true, true, true, true, true, true, true, true, true, true, true, true] 0 (by kernel_rfl) (by kernel_rfl) (by decide) (by kernel_rfl) hS (fun K hK => ?_)
        simp only [Mix.pick]
        repeat (go_big_quiet_step (fail))
        refine wpQuiet_nil (hK _ ?_)
        clear hK K
        refine MixH.done (by kernel_rfl) ?_
        go_wp2
        go_roundw
        case rel => exact ⟨k + 1, by go_num, by omega, hS⟩
        case measure => simp [intOf]; omega
      · have q1 : ((y : Int) != (x : Int)) = true := by rw [bne_iff_ne]; omega
        have q2 : (y != x) = true := by rw [bne_iff_ne]; exact hxy
        have hk3 : k = 8 ∨ k = 10 ∨ k = 11 := by
          by_cases h8 : k = 8
          · exact .inl h8
          · by_cases h10 : k = 10
            · exact .inr (.inl h10)
            · by_cases h11 : k = 11
              · exact .inr (.inr h11)
              · exact absurd (HG.out h8 h10 h11) hxy
        clear hxy HG
        rcases hk3 with rfl | rfl | rfl
        · skip
          refine MixH.takes [false, false, false, false, false, false, false, false, true, true, true, true, true, true, true, true, true, true, true, true, true] 0 (by kernel_rfl) (by kernel_rfl) (by decide) (by kernel_rfl) hS (fun K hK => ?_)
          simp only [Mix.pick]
          repeat (go_big_quiet_step (fail))
          refine wpQuiet_nil (hK _ ?_)
          clear hK K
          refine MixH.done (by kernel_rfl) ?_
          go_wp2
          go_roundw
          case rel => exact ⟨8 + 1, by go_num, by omega, hS⟩
          case measure => simp [intOf]; omega
        · skip
          refine MixH.takes [false, false, false, false, false, false, false, false, true, true, true, true, true, true, true, true, true, true, true, true, true] 0 (by kernel_rfl) (by kernel_rfl) (by decide) (by kernel_rfl) hS (fun K hK => ?_)
          simp only [Mix.pick]
          repeat (go_big_quiet_step (fail))
          refine wpQuiet_nil (hK _ ?_)
          clear hK K
          refine MixH.done (by kernel_rfl) ?_
          go_wp2
          go_roundw
          case rel => exact ⟨10 + 1, by go_num, by omega, hS⟩
          case measure => simp [intOf]; omega
        · skip
          refine MixH.takes [false, false, false, false, false, false, false, false, true, true, true, true, true, true, true, true, true, true, true, true, true] 0 (by kernel_rfl) (by kernel_rfl) (by decide) (by kernel_rfl) hS (fun K hK => ?_)
          simp only [Mix.pick]
          repeat (go_big_quiet_step (fail))
          refine wpQuiet_nil (hK _ ?_)
          clear hK K
          refine MixH.done (by kernel_rfl) ?_
          go_wp2
          go_roundw
          case rel => exact ⟨11 + 1, by go_num, by omega, hS⟩
          case measure => simp [intOf]; omega
    · have hkn : k = n := by omega
      subst hkn
      have hni : ¬ ((k : Int) < (k : Int)) := by omega
      clear hlt
      have bel12 := bthen BEL11.out HBE.out
      have HW12 : Hid (H4At wr O4 P1 (.slice lb K2 mc) (.slice db dn dc)) := H4At.below HW11.out HBE.out
      have HX12 : Hid (H4At wr O3 P1 (.slice lx K2 lc2) (.slice dX dn dn)) := H4At.below HX11.out HBE.out
      have HO412 : Hid (wr.ownsRow w1.heap.size 5 1 (.slice (some ⟨b4, o4, none⟩) k c4) k ((toI bs).map (Value.int .u8))) := owns_below HO411.out HBE.out
      have HO512 : Hid (wr.ownsRow w2.heap.size 5 1 (.slice (some ⟨b5, o5, none⟩) k c5) k ((toI hs).map (Value.int .u8))) := owns_below HO511.out HBE.out
      have hk12 := HK11.out.old HBE.out
      have hv2 : vals qs = vals ps := by
        have h1 := hk12.hos
        rw [HV.out, ← HOKV.out, h1]
      have QM : Hid _ := same_true P1 lx lb dX db K2 lc2 mc dn dn dc qs ps P.data wr (HQO11.out.old HBE.out) hk12.opts HQL.out hv2 hk12.on hk12.dl (HQS11.out.old HBE.out) hk12.seg hk12.d256
      clear hk12 hv2 HBE
      go_wp2_with fail
      refine Calls.mono (num_any 0 wr) ?_
      rintro e w13 ⟨rfl, rfl⟩
      go_wp2_with fail
      refine Calls.mono (num_any 0 wr) ?_
      rintro e w13 ⟨rfl, rfl⟩
      go_wp2_with (first | (refine wpList_load_h4 _ rfl O3 P1 (.slice lx K2 lc2) (.slice dX dn dn) rfl HX12.out rfl ?_) | (refine wpList_load_h4 _ rfl O4 P1 (.slice lb K2 mc) (.slice db dn dc) rfl HW12.out rfl ?_))
      refine Calls.mono QM.out ?_
      rintro e w13 ⟨rfl, hb13⟩
      have bel13 := bthen bel12 hb13
      have HO413 : Hid (w13.ownsRow w1.heap.size 5 1 (.slice (some ⟨b4, o4, none⟩) k c4) k ((toI bs).map (Value.int .u8))) := owns_below HO412.out hb13
      have HO513 : Hid (w13.ownsRow w2.heap.size 5 1 (.slice (some ⟨b5, o5, none⟩) k c5) k ((toI hs).map (Value.int .u8))) := owns_below HO512.out hb13
      have QCA : Hid _ := canonical_any (some ⟨b4, o4, none⟩) c4 k bs w13 HN.out (HWID.out w13 bel13) (owns_at HO413.out).1 H256.out hcp4.1 hcp4.2
      obtain ⟨cn, hcn⟩ : ∃ cn, cn = canon bs := ⟨_, rfl⟩
      rw [← hcn] at QCA HHC
      clear QM hb13 HO412 HO512 HW12 HX12 hcn bel12
      cases cn with
      | false =>
        go_wp2_with fail
        refine Calls.mono QCA.out ?_
        rintro e w14 ⟨rfl, hb14⟩
        have bel14 := bthen bel13 hb14
        go_wp2
        go_ret
        exact ⟨rfl, bel14⟩
      | true =>
        go_wp2_with fail
        refine Calls.mono QCA.out ?_
        rintro e w14 ⟨rfl, hb14⟩
        have bel14 := bthen bel13 hb14
        have QCB : Hid _ := canonical_any (some ⟨b5, o5, none⟩) c5 k hs w14 HHL.out (HWID.out w14 bel14) (owns_at (owns_below HO513.out hb14)).1 HH256.out hcp5.1 hcp5.2
        rw [HHC.out (by first | rfl | trivial)] at QCB
        go_wp2_with fail
        refine Calls.mono QCB.out ?_
        rintro e w15 ⟨rfl, hb15⟩
        have bel15 := bthen bel14 hb15
        go_wp2
        go_ret
        exact ⟨rfl, bel15⟩
end Go.Proofs.YtdinhgfkpjaipaaDoor
