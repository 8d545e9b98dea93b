/-
  The document's own tells, Mss, of layer 9.
-/
/-
  The document's own Clamp, of layer 9.
-/
/-
  Options laid in a longer list, each one's data cut out of a longer one; whether they stand (as R6Laid, R6Same).
-/
/-
  A call of layer 9's script: what came in (second form); in a block of its own.
-/
import Derived.Test.YtfoeepbndfnifaaGreatDoorL9M3
import Derived.Deep.DeepCutAuto
import Derived.Test.YtfoeepbndfnifaaGreatDoorL9Open
namespace Go.Proofs.YtfoeepbndfnifaaGreatDoor
open Go.RowKit
open L4 (U9 T9)
set_option maxHeartbeats 800000 in
theorem rtells_any (o : OpV) (w : World) : Calls Tryz.prog 67 #[.agg #[.int .i64 o.k, .slice o.a o.d.length o.c]] w fun e w' => e = .returned (.bool (L4.tells o.val)) ∧ Below w.heap.size w w' := by
  have bel : Below w.heap.size w (w.alloc (.cells #[.int .i64 o.k, .slice o.a o.d.length o.c] 76)) := (Below.refl _ _).alloc (Nat.le_refl _) _
  obtain ⟨K, hK⟩ : ∃ K, K = o.k := ⟨_, rfl⟩
  obtain ⟨L, hL⟩ : ∃ L, L = o.d.length := ⟨_, rfl⟩
  rw [← hK, ← hL] at bel ⊢
  have HK : Hid (K = o.k) := hK
  have HL : Hid (L = o.d.length) := hL
  clear hK hL
  by_cases k2 : K = 2
  case neg =>
    have b1 : (K == 2) = false := by simpa using k2
    have HT : Hid (L4.tells o.val = false) := by
      show _ = _
      unfold L4.tells; rw [decide_eq_false (by show ¬ o.k = 2; rw [← HK.out]; exact k2)]; rfl
    clear k2
    go_enter Tryz.func67, Tryz.ntmps67
    go_wp2
    go_ret
    exact ⟨by rw [HT.out]; rfl, bel⟩
  subst k2
  by_cases l2 : L = 2
  case neg =>
    have b1 : ((L : Int) == 2) = false := by
      rw [beq_eq_false_iff_ne]; omega
    have HT : Hid (L4.tells o.val = false) := by
      show _ = _
      unfold L4.tells; rw [decide_eq_false (p := o.val.2.length = 2) (by show ¬ o.d.length = 2; rw [← HL.out]; exact l2), Bool.and_false]
    clear l2
    go_enter Tryz.func67, Tryz.ntmps67
    go_wp2
    go_ret
    exact ⟨by rw [HT.out]; rfl, bel⟩
  subst l2
  have HT : Hid (L4.tells o.val = true) := by
    show _ = _
    unfold L4.tells; rw [decide_eq_true (p := o.val.1 = 2) (by show o.k = 2; rw [← HK.out]), decide_eq_true (p := o.val.2.length = 2) (by show o.d.length = 2; rw [← HL.out])]; rfl
  go_enter Tryz.func67, Tryz.ntmps67
  go_wp2
  go_ret
  exact ⟨by rw [HT.out]; rfl, bel⟩
theorem OpOk.dok {w : World} {o : OpV} (h : OpOk w o) (hs : o.d.length ≤ 1048576) : DOk w o.d o.a o.d.length o.c := ⟨rfl, h.seg, h.h256, h.le, h.cap, by omega⟩
set_option maxHeartbeats 1600000 in
set_option maxRecDepth 100000 in
theorem rmss_any (t : T9) (la : Option Addr) (ln lc : Nat) (os : List OpV) (da : Option Addr) (n c : Nat) (w : World) (hl : os.length = ln) (ho : OptsAt w la os) (hln : ln ≤ 1099511627776) (hsm : ∀ o ∈ os, o.d.length ≤ 1048576) :
    Calls Tryz.prog 23 #[.agg (tC t la ln lc da n c)] w fun e w' => e = .returned (.tuple #[.int .i64 (((L4.mss (vals os)).1 : Nat) : Int), .bool (L4.mss (vals os)).2]) ∧ Below w.heap.size w w' := by
  have bel : Below w.heap.size w (w.alloc (.cells (tC t la ln lc da n c) 33)) := (Below.refl _ _).alloc (Nat.le_refl _) _
  have hr := tAt_new w t la ln lc da n c
  obtain ⟨M, hM⟩ : ∃ M, M = tC t la ln lc da n c := ⟨_, rfl⟩
  rw [← hM] at bel hr ⊢
  obtain ⟨W, hW⟩ : ∃ W, W = w.alloc (.cells M 33) := ⟨_, rfl⟩
  rw [← hW] at bel hr
  have HW : Hid (w.alloc (.cells M 33) = W) := hW.symm
  obtain ⟨O, hO⟩ : ∃ O, O = w.heap.size := ⟨_, rfl⟩
  rw [← hO] at hr
  have HO : Hid (w.heap.size = O) := hO.symm
  have HR : Hid (TAt W O t la ln lc da n c) := hr
  have HN : Hid (os.length = ln) := hl
  have HOA : Hid (OptsAt w la os) := ho
  have HSM : Hid (∀ o ∈ os, o.d.length ≤ 1048576) := hsm
  have HBW : Hid (Below w.heap.size w W) := bel
  clear hr hM hW hO hl ho hsm bel
  go_enter Tryz.func23, Tryz.ntmps23
  go_upto_region 1 with fail
  rw [HO.out, HW.out]
  go_wp2
  go_loopw [4] (fun ix wr => ∃ k : Nat, ix = .int .i64 k ∧ k ≤ ln ∧ Hid (L4.mss (vals os) = L4.mss (vals (os.drop k))) ∧ Hid (Below w.heap.size w wr ∧ TAt wr O t la ln lc da n c)) (fun ix _ => ln - (intOf ix).toNat)
  case atStart => exact ⟨0, rfl, Nat.zero_le _, rfl, HBW.out, HR.out⟩
  case round =>
    obtain ⟨k, rfl, hk, HM, HRR⟩ := hrel
    have c7 := HRR.out.2.c7
    by_cases hlt : k < ln
    · obtain ⟨o, hok⟩ : ∃ o, os[k]? = some o := ⟨_, List.getElem?_eq_getElem (by rw [HN.out]; exact hlt)⟩
      have hmo := HSM.out o (List.mem_of_getElem? hok)
      obtain ⟨b, off, hla, hblt, hoo, d0, d1⟩ := (HOA.out.old HRR.out.1).at k o hok
      subst hla
      have k0 : (0 : Int) ≤ (k : Int) := by omega
      have k1 : (k : Int) < (ln : Int) := by omega
      have k2 : ((k : Int)).toNat = k := by omega
      have wk : IntKind.i64.wrap ((k : Int) + 1) = (k : Int) + 1 := by rw [IntKind.wrap_i64]; omega
      have HT : Hid _ := mss_drop os k o hok
      rw [← HM.out] at HT
      have QT : Hid _ := rtells_any o wr
      have HDK : Hid (OpOk wr o ∧ b < wr.heap.size ∧ o.d.length ≤ 1048576) := ⟨hoo, hblt, hmo⟩
      have HD1 : Hid (wr.cell? ⟨b, off + k * 2 + 1, none⟩ = some (.slice o.a o.d.length o.c)) := d1
      have HTL : Hid (L4.tells o.val = true → o.d.length = 2 ∧ L4.toldV o.val = numB o.d 0 2) := by
        intro h
        refine ⟨?_, ?_⟩
        · have h' := h
          unfold L4.tells at h'
          simp only [Bool.and_eq_true, decide_eq_true_eq] at h'
          exact h'.2
        · rw [numB2]
          unfold L4.toldV
          rw [if_pos h]
          rfl
      obtain ⟨z, hz⟩ : ∃ z, z = L4.tells o.val := ⟨_, rfl⟩
      rw [← hz] at QT HT HTL
      clear hz hok hoo hblt hmo
      go_wp2_with fail
      refine Calls.mono QT.out ?_
      rintro e w1 ⟨rfl, hb3⟩
      have HB4 : Hid (Below w.heap.size w w1) := bthen HRR.out.1 hb3
      have HR4 : Hid (TAt w1 O t (some ⟨b, off, none⟩) ln lc da n c) := HRR.out.2.below hb3
      have D1 : Hid (w1.cell? ⟨b, off + k * 2 + 1, none⟩ = some (.slice o.a o.d.length o.c)) := (hb3.cell (p := ⟨b, off + k * 2 + 1, none⟩) HDK.out.2.1).trans HD1.out
      have HDO : Hid (DOk w1 o.d o.a o.d.length o.c) := (HDK.out.1.old hb3).dok HDK.out.2.2
      clear QT hb3 d0 d1 c7 HD1 HDK
      have c7 := HR4.out.c7
      cases z with
      | true =>
        have QN : Hid _ := rnum_any o.a o.d.length o.c 0 2 o.d w1 HDO.out (by have := (HTL.out rfl).1; omega) (by omega)
        have HQ : Hid (L4.mss (vals os) = (numB o.d 0 2, true)) := by show _ = _; rw [HT.out, if_pos rfl, (HTL.out rfl).2]
        have d1 := D1.out
        clear HT HTL
        go_wp2_with fail
        refine Calls.mono QN.out ?_
        rintro e w2 ⟨rfl, rfl⟩
        clear QN
        go_wp2
        go_ret2
        exact ⟨by rw [HQ.out]; rfl, HB4.out⟩
      | false =>
        have HR : Hid (L4.mss (vals os) = L4.mss (vals (os.drop (k + 1)))) := HT.out
        clear HT HTL
        go_wp2
        go_roundw
        case rel => exact ⟨k + 1, by go_num, by omega, HR, HB4.out, HR4.out⟩
        case measure => simp [intOf]; omega
    · have hkn : k = ln := by omega
      have HZM : Hid (L4.mss (vals os) = (0, false)) := by
        have := HM.out
        rw [List.drop_of_length_le (by rw [HN.out]; omega)] at this
        exact this
      have HBB : Hid (Below w.heap.size w wr) := HRR.out.1
      subst hkn
      clear hlt
      go_wp2
      go_ret2
      exact ⟨by rw [HZM.out]; rfl, HBB.out⟩
end Go.Proofs.YtfoeepbndfnifaaGreatDoor
namespace Go.Proofs.YtfoeepbndfnifaaGreatDoor
open Go.RowKit
open L4 (U9 T9)
theorem DOk.ch {S : Nat → Prop} {w w' : World} {d : List Nat} {da : Option Addr} {n c : Nat} (h : DOk w d da n c) (k : Ch S w w') (hS : ∀ z, da = some z → ¬ S z.block) : DOk w' d da n c :=
  { h with
    seg := by
      rcases h.seg with h0 | ⟨b, off, e, hc⟩
      · exact .inl h0
      · exact .inr ⟨b, off, e, fun i hi => k.cell (hc i hi) (hS ⟨b, off, none⟩ e)⟩ }
theorem wrap_256 (v : Int) (h0 : 0 ≤ v) (h1 : v ≤ 255) : wrap64 v % 256 = v := by
  have e : wrap64 v = v := by unfold wrap64; omega
  rw [e]
  omega
/-- the state of Clamp's loop: the first k options clamped, the rest as they were; each one's bytes in a row of their own -/
structure RcS (w : World) (X Y : Nat) (os : List OpV) (syn : Bool) (m : Nat) (lb db : Option Addr) (n dc : Nat) (d : List Nat) (k : Nat) (ps : List OpV) (wr : World) : Prop where
  pl : ps.length = os.length
  vs : vals ps = ((vals os).take k).map (L4.clO syn m) ++ (vals os).drop k
  opts : OptsAt wr lb ps
  rows : ∀ (i : Nat) (p : OpV), ps[i]? = some p → wr.ownsRow w.heap.size 5 1 (.slice p.a p.d.length p.c) p.d.length ((toI p.d).map (Value.int .u8))
  dis : ∀ (i j : Nat) (p q : OpV), ps[i]? = some p → ps[j]? = some q → i ≠ j → ∀ z y : Addr, p.a = some z → q.a = some y → z.block ≠ y.block
  far : ∀ z : Addr, lb = some z → ∀ (i : Nat) (p : OpV), ps[i]? = some p → ∀ y : Addr, p.a = some y → z.block ≠ y.block
  fdb : ∀ z : Addr, db = some z → ∀ (i : Nat) (p : OpV), ps[i]? = some p → ∀ y : Addr, p.a = some y → z.block ≠ y.block
  rng : ∀ (i : Nat) (p : OpV), ps[i]? = some p → ∀ y : Addr, p.a = some y → X ≤ y.block ∧ y.block < Y
  lrg : ∀ z : Addr, lb = some z → X ≤ z.block ∧ z.block < Y
  drg : ∀ z : Addr, db = some z → X ≤ z.block ∧ z.block < Y
  bel : Below w.heap.size w wr
  wx : w.heap.size ≤ X
  data : DOk wr d db n dc
section
variable {w wr w' : World} {X Y : Nat} {os ps : List OpV} {syn : Bool} {m : Nat} {lb db : Option Addr} {n dc : Nat} {d : List Nat} {k : Nat}
theorem RcS.below (h : RcS w X Y os syn m lb db n dc d k ps wr) (b : Below wr.heap.size wr w') : RcS w X Y os syn m lb db n dc d k ps w' :=
  { h with opts := h.opts.old b, rows := fun i p hp => own_dn b (h.rows i p hp), bel := bthen h.bel b, data := h.data.old b }
theorem RcS.ch {S : Nat → Prop} (h : RcS w X Y os syn m lb db n dc d k ps wr) (c : Ch S wr w') (hS : ∀ x, S x → w.heap.size ≤ x ∧ (x < X ∨ Y ≤ x)) : RcS w X Y os syn m lb db n dc d k ps w' :=
  { h with
    opts := h.opts.ch c (fun z hz s => by have := h.lrg z hz; have := hS _ s; omega) (fun p hp z hz s => by
      obtain ⟨i, hi⟩ := List.getElem?_of_mem hp
      have := h.rng i p hi z hz; have := hS _ s; omega)
    rows := fun i p hp => c.owns (h.rows i p hp) (fun g hg s => by
      obtain ⟨z, hz, hb⟩ := blk_own hg
      have := h.rng i p hp z hz; have := hS _ s; omega)
    bel := h.bel.trans (c.below (fun x s => (hS x s).1) h.bel.size)
    data := h.data.ch c (fun z hz s => by have := h.drg z hz; have := hS _ s; omega) }
theorem RcS.skip (h : RcS w X Y os syn m lb db n dc d k ps wr) (o : OpV) (ho : os[k]? = some o) (hv : L4.clO syn m o.val = o.val) : RcS w X Y os syn m lb db n dc d (k + 1) ps wr :=
  { h with
    vs := by
      rw [h.vs, vals_take os k o ho, List.map_append, List.append_assoc]
      congr 1
      have hk : k < (vals os).length := by unfold vals; rw [List.length_map]; exact (List.getElem?_eq_some_iff.1 ho).1
      rw [List.drop_eq_getElem_cons hk]
      have e : (vals os)[k] = o.val := by simp [vals, (List.getElem?_eq_some_iff.1 ho).2]
      rw [e]
      show _ = [L4.clO syn m o.val] ++ _
      rw [hv]
      rfl }
theorem RcS.at (h : RcS w X Y os syn m lb db n dc d k ps wr) (o : OpV) (ho : os[k]? = some o) : ∃ p, ps[k]? = some p ∧ p.val = o.val := by
  have hk : k < os.length := (List.getElem?_eq_some_iff.1 ho).1
  have hkp : k < ps.length := by rw [h.pl]; exact hk
  refine ⟨ps[k], List.getElem?_eq_getElem hkp, ?_⟩
  have h1 : (vals ps)[k]? = some ps[k].val := by simp [vals, List.getElem?_eq_getElem hkp]
  rw [h.vs, List.getElem?_append_right (by simp [vals]; omega)] at h1
  have hl : (((vals os).take k).map (L4.clO syn m)).length = k := by simp [vals]; omega
  rw [hl, List.getElem?_drop, Nat.sub_self, Nat.add_zero] at h1
  have h2 : (vals os)[k]? = some o.val := by simp [vals, ho]
  rw [h2] at h1
  exact (Option.some.inj h1).symm
theorem RcS.write (h : RcS w X Y os syn m lb db n dc d k ps wr) (o p : OpV) (g x1 x2 : Nat) (ho : os[k]? = some o) (hp : ps[k]? = some p) (ha : p.a = some ⟨g, 0, none⟩) (hd : p.d.length = 2) (h1 : x1 < 256) (h2 : x2 < 256) (hv : (p.k, [x1, x2]) = L4.clO syn m o.val) :
    RcS w X Y os syn m lb db n dc d (k + 1) (ps.set k ⟨p.k, p.a, p.c, [x1, x2]⟩) ((wr.setCell ⟨g, 0, none⟩ (.int .u8 (x1 : Int))).setCell ⟨g, 1, none⟩ (.int .u8 (x2 : Int))) := by
  have hc : Ch (fun q => q = g) wr ((wr.setCell ⟨g, 0, none⟩ (.int .u8 (x1 : Int))).setCell ⟨g, 1, none⟩ (.int .u8 (x2 : Int))) := ((Ch.refl (fun q => q = g) wr).set _ _ rfl).set _ _ rfl
  have hkp : k < ps.length := (List.getElem?_eq_some_iff.1 hp).1
  have hq : ∀ (i : Nat) (q : OpV), (ps.set k ⟨p.k, p.a, p.c, [x1, x2]⟩)[i]? = some q → (i = k ∧ q = ⟨p.k, p.a, p.c, [x1, x2]⟩) ∨ (i ≠ k ∧ ps[i]? = some q) := by
    intro i q hi
    by_cases e : i = k
    · subst e
      rw [List.getElem?_set_self hkp] at hi
      exact .inl ⟨rfl, (Option.some.inj hi).symm⟩
    · rw [List.getElem?_set_ne (fun e' => e e'.symm)] at hi
      exact .inr ⟨e, hi⟩
  have hq2 : ∀ (i : Nat) (q : OpV), (ps.set k ⟨p.k, p.a, p.c, [x1, x2]⟩)[i]? = some q → ∃ r : OpV, ps[i]? = some r ∧ r.a = q.a := by
    intro i q hi
    rcases hq i q hi with ⟨rfl, rfl⟩ | ⟨_, e⟩
    · exact ⟨p, hp, rfl⟩
    · exact ⟨q, e, rfl⟩
  have hrow : ((wr.setCell ⟨g, 0, none⟩ (.int .u8 (x1 : Int))).setCell ⟨g, 1, none⟩ (.int .u8 (x2 : Int))).ownsRow w.heap.size 5 1 (.slice p.a 2 p.c) 2 ((toI [x1, x2]).map (Value.int .u8)) := by
    have r := h.rows k p hp
    rw [ha, hd] at r
    have r1 := ((r.stored 0 (.int .u8 (x1 : Int))).1.stored 1 (.int .u8 (x2 : Int))).1
    rw [two_list p.d hd] at r1
    rw [ha]
    exact r1
  have hg := h.rng k p hp ⟨g, 0, none⟩ ha
  have hg' : X ≤ g ∧ g < Y := hg
  refine { pl := by rw [List.length_set]; exact h.pl, vs := ?_, opts := ?_, rows := ?_, dis := ?_, far := ?_, fdb := ?_, rng := ?_, lrg := h.lrg, drg := h.drg, bel := h.bel.trans (hc.below (fun x s => by have e : x = g := s; have := h.wx; omega) h.bel.size), wx := h.wx, data := h.data.ch hc (fun z hz s => h.fdb z hz k p hp _ ha s) }
  · have hk : k < (vals os).length := by unfold vals; rw [List.length_map, ← h.pl]; exact hkp
    have e : (vals os)[k] = o.val := by simp [vals, (List.getElem?_eq_some_iff.1 ho).2]
    have e1 : vals (ps.set k ⟨p.k, p.a, p.c, [x1, x2]⟩) = (vals ps).set k (p.k, [x1, x2]) := by unfold vals; rw [List.map_set]; rfl
    have hl : (((vals os).take k).map (L4.clO syn m)).length = k := by rw [List.length_map, List.length_take]; omega
    rw [e1, h.vs, List.set_append_right _ _ (by rw [hl]; exact Nat.le_refl _), hl, Nat.sub_self, List.drop_eq_getElem_cons hk, List.set_cons_zero, vals_take os k o ho, List.map_append, List.append_assoc, hv]
    rfl
  · rcases h.opts with h0 | ⟨b, off, e, hlt, hcl⟩
    · rw [h0] at hp; simp at hp
    · have hbg : b ≠ g := fun e' => h.far ⟨b, off, none⟩ e k p hp _ ha e'
      refine .inr ⟨b, off, e, Nat.lt_of_lt_of_le hlt hc.size, fun i q hi => ?_⟩
      rcases hq i q hi with ⟨rfl, rfl⟩ | ⟨hne, hi2⟩
      · obtain ⟨q1, q2, q3⟩ := hcl i p hp
        obtain ⟨s1, s2, s3⟩ := owns_seg_at hrow
        refine ⟨⟨s1, ?_, s2, s3⟩, hc.cell q2 hbg, ?_⟩
        · intro x hx
          simp at hx
          rcases hx with rfl | rfl <;> assumption
        · have := hc.cell q3 hbg
          rw [hd] at this
          exact this
      · obtain ⟨q1, q2, q3⟩ := hcl i q hi2
        exact ⟨q1.ch hc (fun z hz s => h.dis i k q p hi2 hp hne z _ hz ha s), hc.cell q2 hbg, hc.cell q3 hbg⟩
  · intro i q hi
    rcases hq i q hi with ⟨rfl, rfl⟩ | ⟨hne, hi2⟩
    · exact hrow
    · exact hc.owns (h.rows i q hi2) (fun g' hg' s => by
        obtain ⟨z, hz, hb⟩ := blk_own hg'
        exact h.dis i k q p hi2 hp hne z _ hz ha (by rw [hb]; exact s))
  · intro i j q r hi hj hne z y hz hy
    obtain ⟨q', e1, e2⟩ := hq2 i q hi
    obtain ⟨r', e3, e4⟩ := hq2 j r hj
    exact h.dis i j q' r' e1 e3 hne z y (e2.trans hz) (e4.trans hy)
  · intro z hz i q hi y hy
    obtain ⟨q', e1, e2⟩ := hq2 i q hi
    exact h.far z hz i q' e1 y (e2.trans hy)
  · intro z hz i q hi y hy
    obtain ⟨q', e1, e2⟩ := hq2 i q hi
    exact h.fdb z hz i q' e1 y (e2.trans hy)
  · intro i q hi y hy
    obtain ⟨q', e1, e2⟩ := hq2 i q hi
    exact h.rng i q' e1 y (e2.trans hy)
end
set_option maxHeartbeats 3200000 in
set_option maxRecDepth 100000 in
theorem rclamp_any (t : T9) (la : Option Addr) (ln lc : Nat) (os : List OpV) (da : Option Addr) (n c : Nat) (most : Int) (w : World) (hl : os.length = ln) (ho : OptsAt w la os) (hln : ln ≤ 1048576) (hsm : ∀ o ∈ os, o.d.length ≤ 1048576) (k : DOk w t.d da n c) :
    Calls Tryz.prog 22 #[.agg (tC t la ln lc da n c), .int .i64 most] w fun e w' => ∃ lb mc db dc ps, e = .returned (.agg (tC t lb ln mc db n dc)) ∧ Below w.heap.size w w' ∧ ps.length = ln ∧ vals ps = (vals os).map (L4.clO (synB t.fl) most.toNat) ∧ OptsAt w' lb ps ∧ DOk w' t.d db n dc := by
  obtain ⟨W, hW⟩ : ∃ W, W = w.alloc (.cells (tC t la ln lc da n c) 33) := ⟨_, rfl⟩
  obtain ⟨O, hO⟩ : ∃ O, O = w.heap.size := ⟨_, rfl⟩
  have bel : Below w.heap.size w W := by rw [hW]; exact (Below.refl _ _).alloc (Nat.le_refl _) _
  have hr : TAt W O t la ln lc da n c := by rw [hW, hO]; exact tAt_new _ _ _ _ _ _ _ _
  obtain ⟨W2, hW2⟩ : ∃ W2, W2 = W.alloc (.cells (tC t9z none 0 0 none 0 0) 33) := ⟨_, rfl⟩
  obtain ⟨O2, hO2⟩ : ∃ O2, O2 = W.heap.size := ⟨_, rfl⟩
  have hb2 : Below W.heap.size W W2 := by rw [hW2]; exact (Below.refl _ _).alloc (Nat.le_refl _) _
  have hz2 : TAt W2 O2 t9z none 0 0 none 0 0 := by rw [hW2, hO2]; exact tAt_new _ _ _ _ _ _ _ _
  have bel2 := bthen bel hb2
  have HOO : Hid (O < O2 ∧ w.heap.size ≤ O ∧ O2 < W2.heap.size) := ⟨by rw [hO2]; exact hr.lt, by omega, hz2.lt⟩
  have HR : Hid (TAt W2 O t la ln lc da n c) := hr.below hb2
  have HZ : Hid (TAt W2 O2 t9z none 0 0 none 0 0) := hz2
  obtain ⟨M, hM⟩ : ∃ M, M = tC t la ln lc da n c := ⟨_, rfl⟩
  have HW : Hid (w.alloc (.cells M 33) = W ∧ w.heap.size = O) := ⟨by rw [hM]; exact hW.symm, hO.symm⟩
  have HW2 : Hid (W.alloc (.cells #[.int .i64 0, .int .i64 0, .int .i64 0, .int .i64 0, .int .i64 0, .int .i64 0, .int .i64 0, .slice none 0 0, .slice none 0 0] 33) = W2 ∧ W.heap.size = O2) := ⟨hW2.symm, hO2.symm⟩
  have HO2 : Hid (O + 1 = O2) := by show _ = _; rw [hO2, hW, World.size_alloc, hO]
  have QO : Hid _ := cloneT_full t la ln lc os da n c W2 hl (ho.old bel2) hln hsm (k.old bel2)
  have HB2 : Hid (Below w.heap.size w W2) := bel2
  have HN : Hid (os.length = ln) := hl
  have HSM : Hid (∀ o ∈ os, o.d.length ≤ 1048576) := hsm
  have HNN : Hid ((∀ x ∈ t.d, x < 256) ∧ n ≤ 1099511627776) := ⟨k.d256, k.sm⟩
  obtain ⟨mm, hmm⟩ : ∃ mm, mm = most.toNat := ⟨_, rfl⟩
  rw [← hmm]
  have HMM : Hid (mm = most.toNat) := hmm
  rw [← hM]
  clear hW hO hW2 hO2 hr hb2 hz2 bel bel2 hM k hl ho hsm hmm
  go_enter Tryz.func22, Tryz.ntmps22
  go_upto_region 1 with fail
  rw [HW.out.1, HW.out.2, HO2.out, HW2.out.1]
  clear HW HW2 HO2
  go_wp2_with (refine wpList_load_t9 (.tmp 2) rfl O t la ln lc da n c rfl HR.out rfl ?_)
  refine Calls.mono QO.out ?_
  rintro e w3 ⟨lb, mc, db, dc, ps, rfl, ho3, hb3, hpl, hpv, hpo, hlb, hpr, hrw, hds, hfr, hfd⟩
  have HC3 : Hid (RcS w W2.heap.size w3.heap.size os (synB t.fl) mm lb db n dc t.d 0 ps w3) := by
    refine { pl := hpl.trans HN.out.symm, vs := by rw [hpv]; rfl, opts := hpo, rows := fun i p hp => owns_le (hrw p (List.mem_of_getElem? hp)) HB2.out.size, dis := ?_, far := fun z hz i p hp y hy => hfr z hz p (List.mem_of_getElem? hp) y hy, fdb := fun z hz i p hp y hy => hfd z hz p (List.mem_of_getElem? hp) y hy, rng := fun i p hp y hy => hpr p (List.mem_of_getElem? hp) y hy, lrg := hlb, drg := fun z hz => ho3.lt z.block (by rw [hz]; rfl), bel := bthen HB2.out hb3, wx := HB2.out.size, data := own_dok ho3 HNN.out.1 HNN.out.2 }
    intro i j p q hp hq hne z y hz hy
    have hp2 := List.getElem?_eq_some_iff.1 hp
    have hq2 := List.getElem?_eq_some_iff.1 hq
    obtain ⟨hi, rfl⟩ := hp2
    obtain ⟨hj, rfl⟩ := hq2
    rw [List.pairwise_iff_getElem] at hds
    rcases Nat.lt_or_ge i j with h | h
    · exact hds i j hi hj h z y hz hy
    · exact fun e => hds j i hj hi (by omega) y z hy hz e.symm
  have HR3 : Hid (TAt w3 O t la ln lc da n c) := HR.out.below hb3
  have HZ3 : Hid (TAt w3 O2 t9z none 0 0 none 0 0) := HZ.out.below hb3
  have HPL : Hid (ps.length = ln) := hpl
  have HX3 : Hid (W2.heap.size ≤ w3.heap.size) := hb3.size
  have hb4 : Below w3.heap.size w3 (w3.alloc (.cells (tC t9z none 0 0 none 0 0) 33)) := (Below.refl _ _).alloc (Nat.le_refl _) _
  have HC4 : Hid _ := HC3.out.below hb4
  have HR4 : Hid _ := HR3.out.below hb4
  have HZ4 : Hid _ := HZ3.out.below hb4
  have HN4 : Hid _ := tAt_new w3 t9z none 0 0 none 0 0
  obtain ⟨w4, hw4⟩ : ∃ w4, w4 = w3.alloc (.cells (tC t9z none 0 0 none 0 0) 33) := ⟨_, rfl⟩
  obtain ⟨O5, hO5⟩ : ∃ O5, O5 = w3.heap.size := ⟨_, rfl⟩
  rw [← hw4] at HC4 HR4 HZ4 HN4
  rw [← hO5] at HC4 HN4 HX3
  have HW4 : Hid (w3.alloc (.cells #[.int .i64 0, .int .i64 0, .int .i64 0, .int .i64 0, .int .i64 0, .int .i64 0, .int .i64 0, .slice none 0 0, .slice none 0 0] 33) = w4 ∧ w3.heap.size = O5) := ⟨hw4.symm, hO5.symm⟩
  clear ho3 hb3 hpl hpv hpo hlb hpr hrw hds hfr hfd HC3 HR3 HZ3 QO HR HZ hb4 hw4 hO5
  go_wp2_with (refine wpList_store_t9 (.tmp 5) (.tmp 9) rfl rfl O5 t9z none 0 0 none 0 0 t lb ln mc db n dc (by rw [← HW4.out.2]; rfl) rfl (by have h := HN4.out; rw [← HW4.out.1] at h; exact h) rfl ?_)
  rw [HW4.out.1, HW4.out.2]
  intro w5 hR5 k5
  have HT5 : Hid (TAt w5 O5 t lb ln mc db n dc) := hR5
  have HC5 : Hid (RcS w W2.heap.size O5 os (synB t.fl) mm lb db n dc t.d 0 ps w5) := HC4.out.ch k5 (fun x s => by have e : x = O5 := s; have := HB2.out.size; have := HX3.out; exact ⟨by omega, by omega⟩)
  have HR5 : Hid (TAt w5 O t la ln lc da n c) := TAt.ch HR4.out k5 (fun s => by have e : O = O5 := s; have := HOO.out; have := HX3.out; omega)
  have HZ5 : Hid (TAt w5 O2 t9z none 0 0 none 0 0) := TAt.ch HZ4.out k5 (fun s => by have e : O2 = O5 := s; have := HOO.out; have := HX3.out; omega)
  clear hR5 k5 HC4 HR4 HZ4 HN4 HW4
  go_upto_if 11 with fail
  go_cut [1] (fun s wx => s = .int .i64 (mm : Int) ∧ w5 = wx)
  case first =>
    by_cases hm : most < 0
    · have e0 : mm = 0 := by have := HMM.out; omega
      go_wp2
      go_meet
      exact ⟨by rw [e0]; rfl, rfl⟩
    · have e0 : most = (mm : Int) := by have := HMM.out; omega
      go_wp2
      go_meet
      exact ⟨rfl, rfl⟩
  case rest =>
  obtain ⟨rfl, rfl⟩ := hcut
  as_aux_lemma =>
    go_wp2
    go_loopw [6] (fun ix wr => ∃ (k : Nat) (ps : List OpV), ix = .int .i64 k ∧ k ≤ ln ∧ Hid (RcS w W2.heap.size O5 os (synB t.fl) mm lb db n dc t.d k ps wr) ∧ Hid (TAt wr O t la ln lc da n c ∧ TAt wr O2 t9z none 0 0 none 0 0 ∧ TAt wr O5 t lb ln mc db n dc)) (fun ix _ => ln - (intOf ix).toNat)
    case atStart => exact ⟨0, ps, rfl, Nat.zero_le _, HC5, HR5.out, HZ5.out, HT5.out⟩
    case round =>
      clear HC5 HR5 HZ5 HT5 HPL
      obtain ⟨k, ps, rfl, hk, HC, HB⟩ := hrel
      have c7 := HB.out.2.2.c7
      by_cases hlt : k < ln
      · obtain ⟨o, hok⟩ : ∃ o, os[k]? = some o := ⟨_, List.getElem?_eq_getElem (by rw [HN.out]; exact hlt)⟩
        have hmo := HSM.out o (List.mem_of_getElem? hok)
        obtain ⟨p, hpk, hpv⟩ := HC.out.at o hok
        have hpd : p.d = o.d := congrArg (fun q : Int × List Nat => q.2) hpv
        obtain ⟨b, off, hlb, hblt, hoo, d0, d1⟩ := HC.out.opts.at k p hpk
        subst hlb
        have k0 : (0 : Int) ≤ (k : Int) := by omega
        have k1 : (k : Int) < (ln : Int) := by omega
        have k2 : ((k : Int)).toNat = k := by omega
        have wk : IntKind.i64.wrap ((k : Int) + 1) = (k : Int) + 1 := by rw [IntKind.wrap_i64]; omega
        have QT : Hid _ := rtells_any p wr
        have HDK : Hid (OpOk wr p ∧ b < wr.heap.size ∧ p.d.length ≤ 1048576) := ⟨hoo, hblt, by rw [hpd]; exact hmo⟩
        have HD1 : Hid (wr.cell? ⟨b, off + k * 2 + 1, none⟩ = some (.slice p.a p.d.length p.c)) := d1
        have HPO : Hid (os[k]? = some o ∧ ps[k]? = some p ∧ p.val = o.val) := ⟨hok, hpk, hpv⟩
        have HTL : Hid (L4.tells p.val = true → p.d.length = 2 ∧ L4.toldV p.val = numB p.d 0 2) := by
          intro h
          refine ⟨?_, ?_⟩
          · have h' := h
            unfold L4.tells at h'
            simp only [Bool.and_eq_true, decide_eq_true_eq] at h'
            exact h'.2
          · rw [numB2]
            unfold L4.toldV
            rw [if_pos h]
            rfl
        obtain ⟨z, hz⟩ : ∃ z, z = L4.tells p.val := ⟨_, rfl⟩
        rw [← hz] at QT HTL
        have HZT : Hid (z = L4.tells p.val) := hz
        clear hz hok hoo hblt hmo hpk hpv hpd
        go_wp2_with fail
        refine Calls.mono QT.out ?_
        rintro e w1 ⟨rfl, hb1⟩
        have HC1 : Hid (RcS w W2.heap.size O5 os (synB t.fl) mm (some ⟨b, off, none⟩) db n dc t.d k ps w1) := HC.out.below hb1
        have HB1 : Hid (TAt w1 O t la ln lc da n c ∧ TAt w1 O2 t9z none 0 0 none 0 0 ∧ TAt w1 O5 t (some ⟨b, off, none⟩) ln mc db n dc) := ⟨HB.out.1.below hb1, HB.out.2.1.below hb1, HB.out.2.2.below hb1⟩
        have D1 : Hid (w1.cell? ⟨b, off + k * 2 + 1, none⟩ = some (.slice p.a p.d.length p.c)) := (hb1.cell (p := ⟨b, off + k * 2 + 1, none⟩) HDK.out.2.1).trans HD1.out
        have HDO : Hid (DOk w1 p.d p.a p.d.length p.c) := (HDK.out.1.old hb1).dok HDK.out.2.2
        have HBL : Hid (b < w1.heap.size) := Nat.lt_of_lt_of_le HDK.out.2.1 hb1.size
        clear QT hb1 d0 d1 c7 HD1 HDK HC HB
        have HSK : Hid (z = false ∨ synB t.fl = false ∨ ¬ mm < numB p.d 0 2 → RcS w W2.heap.size O5 os (synB t.fl) mm (some ⟨b, off, none⟩) db n dc t.d (k + 1) ps w1) := by
          intro h
          refine HC1.out.skip o HPO.out.1 ?_
          unfold L4.clO
          rw [if_neg]
          rw [← HPO.out.2.2, ← HZT.out]
          intro h'
          simp only [Bool.and_eq_true, decide_eq_true_eq] at h'
          rcases h with h | h | h
          · rw [h] at h'; cases h'.1.1
          · rw [h] at h'; cases h'.2
          · rw [(HTL.out h'.1.1).2] at h'; exact h h'.1.2
        cases z with
        | false =>
          have HS : Hid _ := HSK.out (.inl rfl)
          clear HTL HSK
          go_wp2
          go_roundw
          case rel => exact ⟨k + 1, ps, by go_num, by omega, HS, HB1.out⟩
          case measure => simp [intOf]; omega
        | true =>
          have c4 := HB1.out.1.c4
          obtain ⟨sy, hsy⟩ : ∃ sy, sy = synB t.fl := ⟨_, rfl⟩
          obtain ⟨ff, hff⟩ : ∃ ff, ff = bits .and .i64 t.fl 2 := ⟨_, rfl⟩
          have hff2 : bits .and .i64 t.fl 2 = ff := hff.symm
          have hsy2 : (ff != 0) = sy := by rw [hff]; exact hsy.symm
          have HSY : Hid (sy = synB t.fl) := hsy
          clear hff hsy
          cases sy with
          | false =>
            have HS : Hid _ := HSK.out (.inr (.inl HSY.out.symm))
            have hf0 : ff = 0 := by simpa using hsy2
            subst hf0
            clear HTL HSK hsy2
            go_wp2
            go_roundw
            case rel => exact ⟨k + 1, ps, by go_num, by omega, HS, HB1.out⟩
            case measure => simp [intOf]; omega
          | true =>
            have HL2 : Hid (p.d.length = 2 ∧ L4.toldV p.val = numB p.d 0 2) := HTL.out rfl
            have QN : Hid _ := rnum_any p.a p.d.length p.c 0 2 p.d w1 HDO.out (by have := HL2.out.1; omega) (by omega)
            have c7 := HB1.out.2.2.c7
            have d1 := D1.out
            have HQ65 : Hid (numB p.d 0 2 ≤ 65535) := by
              show _ ≤ _
              rw [numB2]
              have g := fun i => I4.getD_lt p.d HDO.out.d256 i
              have g0 := g 0
              have g1 := g (0 + 1)
              omega
            obtain ⟨q, hq⟩ : ∃ q, q = numB p.d 0 2 := ⟨_, rfl⟩
            rw [← hq] at QN HSK HQ65
            have HQ : Hid (q = numB p.d 0 2) := hq
            clear hq
            go_wp2_with fail
            refine Calls.mono QN.out ?_
            rintro e w2 ⟨rfl, rfl⟩
            clear QN
            by_cases hmq : mm < q
            case neg =>
              have HS : Hid _ := HSK.out (.inr (.inr hmq))
              have b2 : ¬ ((mm : Int) < (q : Int)) := by omega
              clear HTL HSK hsy2 hmq
              go_wp2
              go_roundw
              case rel => exact ⟨k + 1, ps, by go_num, by omega, HS, HB1.out⟩
              case measure => simp [intOf]; omega
            have b2 : ((mm : Int) < (q : Int)) := by omega
            have l2 : p.d.length = 2 := HL2.out.1
            have hrow := HC1.out.rows k p HPO.out.2.1
            rw [l2] at hrow d1
            obtain ⟨g, hpa⟩ : ∃ g, p.a = some ⟨g, 0, none⟩ := by
              rcases hrow.2 with ⟨h0, h1⟩ | ⟨g, cap, cur, h0, _⟩
              · omega
              · simp only [Value.slice.injEq, true_and] at h0
                exact ⟨g, h0.1⟩
            rw [hpa] at hrow d1
            have hdl : ((toI p.d).map (Value.int .u8)).length = 2 := by rw [List.length_map, toI_len]; exact l2
            obtain ⟨z0, e0⟩ : ∃ z, w1.cell? ⟨g, 0, none⟩ = some z := by
              rw [hrow.cellAt 0 (by omega)]
              exact ⟨_, List.getElem?_eq_getElem (by rw [hdl]; omega)⟩
            obtain ⟨z1, e1⟩ : ∃ z, w1.cell? ⟨g, 1, none⟩ = some z := by
              rw [hrow.cellAt 1 (by omega)]
              exact ⟨_, List.getElem?_eq_getElem (by rw [hdl]; omega)⟩
            have f0 := hrow.frozenAt 0
            have f1 := hrow.frozenAt 1
            have hkA : Ch (fun x => x = g) w1 (w1.setCell ⟨g, 0, none⟩ (.int .u8 ((mm : Int) / 256))) := (Ch.refl (fun x => x = g) w1).set _ _ rfl
            have hrg := HC1.out.rng k p HPO.out.2.1 ⟨g, 0, none⟩ hpa
            have hrg2 : W2.heap.size ≤ g ∧ g < O5 := hrg
            have hbg : b ≠ g := HC1.out.far ⟨b, off, none⟩ rfl k p HPO.out.2.1 _ hpa
            have HWR : Hid (RcS w W2.heap.size O5 os (synB t.fl) mm (some ⟨b, off, none⟩) db n dc t.d (k + 1) (ps.set k ⟨p.k, p.a, p.c, [mm / 256, mm % 256]⟩) ((w1.setCell ⟨g, 0, none⟩ (.int .u8 ((mm : Int) / 256))).setCell ⟨g, 1, none⟩ (.int .u8 ((mm : Int) % 256)))) := by
              have h := HC1.out.write o p g (mm / 256) (mm % 256) HPO.out.1 HPO.out.2.1 hpa l2 (by have := HQ65.out; omega) (by omega) (by
                unfold L4.clO
                rw [if_pos]
                · have e : p.k = o.val.1 := congrArg (fun q : Int × List Nat => q.1) HPO.out.2.2
                  rw [e]
                · rw [← HPO.out.2.2, ← HZT.out, ← HSY.out, HL2.out.2, ← HQ.out, decide_eq_true hmq]; rfl)
              exact h
            obtain ⟨wA, hwA⟩ : ∃ wA, wA = w1.setCell ⟨g, 0, none⟩ (.int .u8 ((mm : Int) / 256)) := ⟨_, rfl⟩
            have A1 : wA.cell? ⟨g, 1, none⟩ = some z1 := by rw [hwA, World.cell?_setCell_other _ _ _ _ (by simp)]; exact e1
            have AF : wA.frozen? ⟨g, 1, none⟩ = false := by rw [hwA, World.frozen?_setCell]; exact f1
            rw [← hwA] at hkA HWR
            have HA5 : Hid (TAt wA O5 t (some ⟨b, off, none⟩) ln mc db n dc) := TAt.ch HB1.out.2.2 hkA (fun s => by have e : O5 = g := s; omega)
            have HBA : Hid (TAt wA O t la ln lc da n c ∧ TAt wA O2 t9z none 0 0 none 0 0) := ⟨TAt.ch HB1.out.1 hkA (fun s => by have e : O = g := s; have := HOO.out; omega), TAt.ch HB1.out.2.1 hkA (fun s => by have e : O2 = g := s; have := HOO.out; omega)⟩
            have AD : Hid (wA.cell? ⟨b, off + k * 2 + 1, none⟩ = some (.slice (some ⟨g, 0, none⟩) 2 p.c)) := hkA.cell d1 hbg
            have hkB : Ch (fun x => x = g) wA (wA.setCell ⟨g, 1, none⟩ (.int .u8 ((mm : Int) % 256))) := (Ch.refl (fun x => x = g) wA).set _ _ rfl
            have HBB : Hid (TAt (wA.setCell ⟨g, 1, none⟩ (.int .u8 ((mm : Int) % 256))) O t la ln lc da n c ∧ TAt (wA.setCell ⟨g, 1, none⟩ (.int .u8 ((mm : Int) % 256))) O2 t9z none 0 0 none 0 0 ∧ TAt (wA.setCell ⟨g, 1, none⟩ (.int .u8 ((mm : Int) % 256))) O5 t (some ⟨b, off, none⟩) ln mc db n dc) := ⟨TAt.ch HBA.out.1 hkB (fun s => by have e : O = g := s; have := HOO.out; omega), TAt.ch HBA.out.2 hkB (fun s => by have e : O2 = g := s; have := HOO.out; omega), TAt.ch HA5.out hkB (fun s => by have e : O5 = g := s; omega)⟩
            have HWA : Hid (w1.setCell ⟨g, 0, none⟩ (.int .u8 ((mm : Int) / 256)) = wA) := hwA.symm
            have HA1 : Hid (wA.cell? ⟨g, 1, none⟩ = some z1 ∧ wA.frozen? ⟨g, 1, none⟩ = false) := ⟨A1, AF⟩
            have u1 : IntKind.u8.wrap ((mm : Int) / 256) = (mm : Int) / 256 := by have := HQ65.out; rw [IntKind.wrap_u8]; omega
            have u2 : IntKind.u8.wrap ((mm : Int) % 256) = (mm : Int) % 256 := by rw [IntKind.wrap_u8]; omega
            clear hrow hdl e1 f1 A1 AF hwA hkA hkB hrg hrg2 hbg hmq l2 HTL HSK hsy2 hpa
            go_upto_region 10 with fail
            have u3 : wrap64 ((mm : Int) / 256) % 256 = (mm : Int) / 256 := by
              have h65 := HQ65.out
              exact wrap_256 _ (by omega) (by omega)
            rw [u3, HWA.out]
            clear u3 HWA c7 d1 c4 e0 f0
            have c7 := HA5.out.c7
            have d1 := AD.out
            obtain ⟨A1, AF⟩ := HA1.out
            go_wp2
            go_roundw
            case rel => exact ⟨k + 1, _, by go_num, by omega, HWR, HBB.out⟩
            case measure => simp [intOf]; omega
      · have hkn : k = ln := by omega
        have HPL : Hid (ps.length = ln) := HC.out.pl.trans HN.out
        have HVS : Hid (vals ps = (vals os).map (L4.clO (synB t.fl) mm)) := by
          have h := HC.out.vs
          have hl : (vals os).length = k := by unfold vals; rw [List.length_map, HN.out]; exact hkn.symm
          rw [List.take_of_length_le (by rw [hl]; exact Nat.le_refl _), List.drop_of_length_le (by rw [hl]; exact Nat.le_refl _), List.append_nil] at h
          exact h
        subst hkn
        have hni : ¬ ((k : Int) < (k : Int)) := by omega
        clear hlt
        go_wp2_with (first | (refine wpList_load_t9 (.tmp 5) rfl O5 t lb k mc db n dc rfl HB.out.2.2 rfl ?_) | (refine wpList_store_t9 (.tmp 4) (.tmp 63) rfl rfl O2 t9z none 0 0 none 0 0 t lb k mc db n dc rfl rfl HB.out.2.1 rfl ?_))
        intro wE hRE kE
        have HRE : Hid (TAt wE O2 t lb k mc db n dc) := hRE
        have HCE : Hid (RcS w W2.heap.size O5 os (synB t.fl) mm lb db n dc t.d k ps wE) := HC.out.ch kE (fun x s => by have e : x = O2 := s; have := HOO.out; exact ⟨by omega, by omega⟩)
        clear hRE kE
        go_wp2
        (try simp only [Exit.inBlock, Exit.then])
        refine bodyPost_ret (v := .agg (tC t lb k mc db n dc)) ?_ rfl ?_
        · exact results_cell_row rfl _ _ O2 33 _ _ _ rfl HRE.out Tryz.underlying33 rfl Tryz.sizeT9
        exact ⟨lb, mc, db, dc, ps, rfl, HCE.out.bel, HPL.out, HVS.out, HCE.out.opts, HCE.out.data⟩
end Go.Proofs.YtfoeepbndfnifaaGreatDoor
namespace Go.Proofs.YtfoeepbndfnifaaGreatDoor
open Go.RowKit
open L4 (U9 T9)

theorem Tryz.infoRow : (Tryz.prog.info? 28).map (fun i => (i.zero, i.size, i.bytes)) = some (some (.slice none 0 0), 1, 24) := by kernel_rfl
theorem one_new (w : World) (x : Value) (t : TypeId) : ∀ j u, ([x] : List Value)[j]? = some u → (w.alloc (.cells #[x] t)).cell? ((⟨w.heap.size, 0, none⟩ : Addr).add j) = some u := by
  intro j u hj
  rw [Addr.add_lit, Nat.zero_add, World.cell?_alloc_at _ _ _ _ rfl]
  match j, hj with
  | 0, hj => simpa using hj
  | j + 1, hj => simp at hj
def wCs (ps : List OpV) : List Value := ps.map (fun p => .slice p.a (p.d.length + 3) p.c)
/-- the state of the loop -/
structure LaS (w : World) (os : List OpV) (vm vw : Value) (k : Nat) (ps : List OpV) (wr : World) : Prop where
  own : wr.ownsRow w.heap.size 76 2 vm ps.length (opCs ps)
  ownw : wr.ownsRow w.heap.size 28 1 vw ps.length (wCs ps)
  rows : ∀ p ∈ ps, wr.ownsRow w.heap.size 5 1 (.slice p.a (p.d.length + 3) p.c) (p.d.length + 3) ((toI (p.d ++ [91, 92, 93])).map (Value.int .u8))
  vs : vals ps = (vals os).take k
  bel : Below w.heap.size w wr
theorem LaS.len {w wr : World} {os ps : List OpV} {vm vw : Value} {k : Nat} (h : LaS w os vm vw k ps wr) (hk : k ≤ os.length) : ps.length = k := by
  have := congrArg List.length h.vs
  simp only [vals, List.length_map, List.length_take] at this
  omega
theorem LaS.below {w wr w' : World} {os ps : List OpV} {vm vw : Value} {k : Nat} (h : LaS w os vm vw k ps wr) (b : Below wr.heap.size wr w') : LaS w os vm vw k ps w' :=
  ⟨owns_below h.own b, owns_below h.ownw b, fun p hp => owns_below (h.rows p hp) b, h.vs, h.bel.trans (b.mono h.bel.size)⟩
def op99 : OpV := ⟨99, none, 0, []⟩
/-- options laid so -/
structure LaidAt (w : World) (os : List OpV) (ma wa : Option Addr) (ps : List OpV) : Prop where
  opts : OptsAt w ma (ps ++ [op99])
  vs : vals ps = vals os
  wb : ∀ i p, ps[i]? = some p → ∃ gw g, wa = some ⟨gw, 0, none⟩ ∧ gw < w.heap.size ∧ w.cell? ⟨gw, i, none⟩ = some (.slice (some ⟨g, 0, none⟩) (p.d.length + 3) p.c) ∧ Seg .u8 w (some ⟨g, 0, none⟩) (toI (p.d ++ [91, 92, 93])) ∧ p.d.length + 3 ≤ p.c ∧ p.a = some ⟨g, 0, none⟩
/-- all of it lies from a block on -/
def LaidNew (B : Nat) (ma wa : Option Addr) (ps : List OpV) : Prop := (∀ x, ma = some x → B ≤ x.block) ∧ (∀ x, wa = some x → B ≤ x.block) ∧ ∀ p ∈ ps, ∀ x, p.a = some x → B ≤ x.block
theorem LaidAt.old {w w' : World} {os ps : List OpV} {ma wa : Option Addr} (h : LaidAt w os ma wa ps) (b : Below w.heap.size w w') : LaidAt w' os ma wa ps :=
  ⟨h.opts.old b, h.vs, fun i p hp => by
    obtain ⟨gw, g, h1, h2, h3, h4, h5⟩ := h.wb i p hp
    exact ⟨gw, g, h1, Nat.lt_of_lt_of_le h2 b.size, (b.cell (p := ⟨gw, i, none⟩) h2).trans h3, h4.old b, h5⟩⟩
theorem LaidAt.ch {S : Nat → Prop} {w w' : World} {os ps : List OpV} {ma wa : Option Addr} {B : Nat} (h : LaidAt w os ma wa ps) (b : Ch S w w') (hn : LaidNew B ma wa ps) (hS : ∀ x, B ≤ x → ¬ S x) : LaidAt w' os ma wa ps := by
  refine ⟨h.opts.ch b (fun x hx => hS _ (hn.1 x hx)) (fun o ho x hx => ?_), h.vs, fun i p hp => ?_⟩
  · rcases List.mem_append.1 ho with hm | hm
    · exact hS _ (hn.2.2 o hm x hx)
    · simp at hm
      subst hm
      simp [op99] at hx
  · obtain ⟨gw, g, h1, h2, h3, h4, h5, h6⟩ := h.wb i p hp
    have n1 : ¬ S gw := hS _ (hn.2.1 ⟨gw, 0, none⟩ h1)
    have n2 : ¬ S g := hS _ (hn.2.2 p (List.mem_of_getElem? hp) ⟨g, 0, none⟩ h6)
    exact ⟨gw, g, h1, Nat.lt_of_lt_of_le h2 b.size, b.cell h3 n1, b.seg h4 (fun x _ hx => by have := Option.some.inj hx; rw [← this]; exact n2), h5, h6⟩
theorem OptsAt.front {w : World} {la : Option Addr} {a b : List OpV} (h : OptsAt w la (a ++ b)) : OptsAt w la a := by
  rcases h with h | ⟨g, off, ha, hlt, hc⟩
  · exact .inl (List.append_eq_nil_iff.1 h).1
  · exact .inr ⟨g, off, ha, hlt, fun i o hi => hc i o (by rw [List.getElem?_append_left (List.getElem?_eq_some_iff.1 hi).1]; exact hi)⟩
theorem LaS.laid {w wr : World} {os ps : List OpV} {ma wa : Option Addr} {n mc wc : Nat} (h1 : wr.ownsRow w.heap.size 76 2 (.slice ma (n + 1) mc) (n + 1) (opCs (ps ++ [op99]))) (h2 : wr.ownsRow w.heap.size 28 1 (.slice wa n wc) n (wCs ps)) (h3 : ∀ p ∈ ps, wr.ownsRow w.heap.size 5 1 (.slice p.a (p.d.length + 3) p.c) (p.d.length + 3) ((toI (p.d ++ [91, 92, 93])).map (Value.int .u8))) (hn : ps.length = n) (hv : vals ps = vals os) (ho : ∀ o ∈ vals os, ∀ x ∈ o.2, x < 256) : LaidAt wr os ma wa ps := by
  refine ⟨?_, hv, ?_⟩
  · obtain ⟨g, cap, cur, e, _, hg, _⟩ : ∃ g cap cur, Value.slice ma (n + 1) mc = .slice (some ⟨g, 0, none⟩) (n + 1) cap ∧ w.heap.size ≤ g ∧ wr.heap[g]? = some (.cells cur 76 (0, 0)) ∧ True := by
      rcases h1.2 with ⟨_, h0⟩ | ⟨g, cap, cur, e, hb, hg, _⟩
      · omega
      · exact ⟨g, cap, cur, e, hb, hg, trivial⟩
    simp only [Value.slice.injEq, true_and] at e
    obtain ⟨rfl, rfl⟩ := e
    refine .inr ⟨g, 0, rfl, (Array.getElem?_eq_some_iff.1 hg).1, fun i o hi => ?_⟩
    have hin : i < n + 1 := by have := (List.getElem?_eq_some_iff.1 hi).1; rw [List.length_append, hn] at this; simpa using this
    obtain ⟨c1, c2⟩ := opCs_get (ps ++ [op99]) i o hi
    have d1 := h1.cellAt (i * 2) (by omega)
    have d2 := h1.cellAt (i * 2 + 1) (by omega)
    rw [c1] at d1
    rw [c2] at d2
    refine ⟨?_, by rw [Nat.zero_add]; exact d1, by rw [Nat.zero_add]; exact d2⟩
    rcases List.mem_append.1 (List.mem_of_getElem? hi) with hm | hm
    · obtain ⟨hsg, q1, q2⟩ := owns_at (h3 o hm)
      have hp0 := hsg.part0 o.d.length (by rw [toI_len, List.length_append]; omega)
      rw [toI_take, List.take_append_of_le_length (Nat.le_refl _), List.take_of_length_le (Nat.le_refl _)] at hp0
      have hov : o.val ∈ vals os := by rw [← hv]; exact List.mem_map.2 ⟨o, hm, rfl⟩
      exact ⟨hp0, ho _ hov, by omega, q2⟩
    · simp at hm
      subst hm
      exact ⟨.inl rfl, (by intro x hx; cases hx), Nat.le_refl _, by decide⟩
  · intro i p hp
    have hin : i < n := by have := (List.getElem?_eq_some_iff.1 hp).1; omega
    obtain ⟨gw, cap, cur, e, _, hg, _⟩ : ∃ g cap cur, Value.slice wa n wc = .slice (some ⟨g, 0, none⟩) n cap ∧ w.heap.size ≤ g ∧ wr.heap[g]? = some (.cells cur 28 (0, 0)) ∧ True := by
      rcases h2.2 with ⟨_, h0⟩ | ⟨g, cap, cur, e, hb, hg, _⟩
      · omega
      · exact ⟨g, cap, cur, e, hb, hg, trivial⟩
    simp only [Value.slice.injEq, true_and] at e
    obtain ⟨rfl, rfl⟩ := e
    have d1 := h2.cellAt i (by omega)
    have e1 : (wCs ps)[i]? = some (.slice p.a (p.d.length + 3) p.c) := by unfold wCs; rw [List.getElem?_map, hp]; rfl
    rw [e1] at d1
    have hrow := h3 p (List.mem_of_getElem? hp)
    obtain ⟨hsg, q1, _⟩ := owns_at hrow
    obtain ⟨g, c, e2⟩ := owns_some hrow (by omega)
    simp only [Value.slice.injEq, true_and] at e2
    rw [e2.1] at d1 hsg
    exact ⟨gw, g, rfl, (Array.getElem?_eq_some_iff.1 hg).1, d1, hsg, q1, e2.1⟩
set_option maxHeartbeats 6400000 in
set_option maxRecDepth 100000 in
theorem laid_any (la : Option Addr) (n cap : Nat) (os : List OpV) (w : World) (hn : os.length = n) (ho : OptsAt w la os) (hb : n ≤ 1048576) (hd : ∀ o ∈ os, o.d.length ≤ 1048576) :
    Calls Tryz.prog 83 #[.slice la n cap] w fun e w' => ∃ ma mc wa wc ps, e = .returned (.tuple #[.slice ma (n + 1) mc, .slice wa n wc]) ∧ Below w.heap.size w w' ∧ List.length ps = n ∧ n + 1 ≤ mc ∧ LaidAt w' os ma wa ps ∧ LaidNew w.heap.size ma wa ps := by
  obtain ⟨i0, hi, hz0, hz1, hz2⟩ := info_parts Tryz.infoOpt
  obtain ⟨j0, hj, hy0, hy1, hy2⟩ := info_parts Tryz.infoRow
  have HN : Hid (os.length = n) := hn
  have HO : Hid (OptsAt w la os) := ho
  have HD : Hid (∀ o ∈ os, o.d.length ≤ 1048576) := hd
  have HS0 : Hid (LaS w os (.slice none 0 0) (.slice none 0 0) 0 [] w) := ⟨World.ownsRow_nil _ _ _ _, World.ownsRow_nil _ _ _ _, by simp, by simp [vals], Below.refl _ _⟩
  clear hn ho hd
  go_enter Tryz.func83, Tryz.ntmps83
  go_wp2
  go_loopw [4, 5, 6] (fun l m ix wr => ∃ (k : Nat) (vm vw : Value) (ps : List OpV), vm = l ∧ vw = m ∧ ix = .int .i64 k ∧ k ≤ n ∧ Hid (LaS w os vm vw k ps wr)) (fun _ _ ix _ => n - (intOf ix).toNat)
  case atStart => exact ⟨0, _, _, [], rfl, rfl, rfl, Nat.zero_le _, HS0⟩
  case round =>
    obtain ⟨k, vm, vw, ps, rfl, rfl, rfl, hk, HS⟩ := hrel
    by_cases hlt : k < n
    · obtain ⟨o, hok⟩ : ∃ o, os[k]? = some o := ⟨_, List.getElem?_eq_getElem (by rw [HN.out]; exact hlt)⟩
      obtain ⟨b1, o1, rfl, hl1, ok1, c10, c11⟩ := HO.out.at k o hok
      have hdl := HD.out o (List.mem_of_getElem? hok)
      obtain ⟨kd, hkd⟩ : ∃ kd, kd = o.k := ⟨_, rfl⟩
      obtain ⟨D, hDD⟩ : ∃ D, D = o.d.length := ⟨_, rfl⟩
      rw [← hkd] at c10
      rw [← hDD] at c11 hdl
      have F10 : Hid (∀ x, Below w.heap.size w x → x.cell? ⟨b1, o1 + k * 2, none⟩ = some (.int .i64 kd)) := fun x hx => (hx.cell (p := ⟨b1, o1 + k * 2, none⟩) hl1).trans c10
      have F11 : Hid (∀ x, Below w.heap.size w x → x.cell? ⟨b1, o1 + k * 2 + 1, none⟩ = some (.slice o.a D o.c)) := fun x hx => (hx.cell (p := ⟨b1, o1 + k * 2 + 1, none⟩) hl1).trans c11
      have QW : Hid _ := wide_any o.a D o.c o.d wr hDD.symm (ok1.seg.old HS.out.bel) hdl
      have g11 := F11.out wr HS.out.bel
      have HVO : Hid (os[k]? = some o) := hok
      have HKD : Hid (kd = o.k) := hkd
      have HDD : Hid (D = o.d.length) := hDD
      have k0 : (0 : Int) ≤ (k : Int) := by omega
      have k1 : (k : Int) < (n : Int) := by omega
      have k2 : ((k : Int)).toNat = k := by omega
      have wk : IntKind.i64.wrap ((k : Int) + 1) = (k : Int) + 1 := by rw [IntKind.wrap_i64]; omega
      clear hok ok1 c10 c11 hkd hDD hl1
      go_wp2_with fail
      refine Calls.mono QW.out ?_
      rintro e w1 ⟨g, c, rfl, hog, hb1⟩
      have HS1 : Hid (LaS w os vm vw k ps w1) := HS.out.below hb1
      have HG1 : Hid (w1.ownsRow w.heap.size 5 1 (.slice (some ⟨g, 0, none⟩) (D + 3) c) (D + 3) ((toI (o.d ++ [91, 92, 93])).map (Value.int .u8))) := owns_mono hog HS.out.bel.size
      have hgc := (owns_at hog).2.1
      have hpl : ps.length = k := HS1.out.len (by rw [HN.out]; omega)
      have hown : w1.ownsRow w.heap.size 28 1 vw k (wCs ps) := by have := HS1.out.ownw; rw [hpl] at this; exact this
      have hsz : w.heap.size ≤ w1.heap.size := HS1.out.bel.size
      clear QW hog hb1 HS hpl g11
      go_wp2_with (first | (at_builtin; refine wpList_append_own_at _ rfl (.tmp 20) (.tmp 22) 46 rfl w.heap.size 28 j0 _ 1 24 Tryz.underlying46 hj hy0 hy1 hy2 rfl (by decide) vw k (wCs ps) rfl (hown.alloc _) ⟨w1.heap.size, 0, none⟩ 1 1 [.slice (some ⟨g, 0, none⟩) (D + 3) c] rfl rfl (one_new _ _ _) (by intro u hu; simp at hu; subst hu; rfl) (by unfold maxLen; omega) (by omega) (by first | omega | (simp; omega)) ?_))
      intro vw2 w2 how2 hg2 _ _
      have b1A : Below w1.heap.size w1 (w1.alloc (.cells #[.slice (some ⟨g, 0, none⟩) (D + 3) c] 28)) := (Below.refl _ _).alloc (Nat.le_refl _) _
      have HSA : Hid (LaS w os vm vw k ps (w1.alloc (.cells #[.slice (some ⟨g, 0, none⟩) (D + 3) c] 28))) := HS1.out.below b1A
      have hne1 : 5 ≠ 28 := by decide
      have hne2 : 76 ≠ 28 := by decide
      have HG2 : Hid (w2.ownsRow w.heap.size 5 1 (.slice (some ⟨g, 0, none⟩) (D + 3) c) (D + 3) ((toI (o.d ++ [91, 92, 93])).map (Value.int .u8))) := (owns_below HG1.out b1A).kept hg2 (apartN (owns_below HG1.out b1A) HSA.out.ownw hne1)
      have HR2 : Hid (∀ p ∈ ps, w2.ownsRow w.heap.size 5 1 (.slice p.a (p.d.length + 3) p.c) (p.d.length + 3) ((toI (p.d ++ [91, 92, 93])).map (Value.int .u8))) := fun p hp => (HSA.out.rows p hp).kept hg2 (apartN (HSA.out.rows p hp) HSA.out.ownw hne1)
      have HM2 : Hid (w2.ownsRow w.heap.size 76 2 vm ps.length (opCs ps)) := HSA.out.own.kept hg2 (apartN HSA.out.own HSA.out.ownw hne2)
      have HW2 : Hid (w2.ownsRow w.heap.size 28 1 vw2 (k + 1) (wCs ps ++ [.slice (some ⟨g, 0, none⟩) (D + 3) c])) := how2
      have HVS : Hid (vals ps = (vals os).take k) := HS1.out.vs
      have HB2 : Hid (Below w.heap.size w w2) := HSA.out.bel.grown hg2 (by simp; omega) (fun q hq => (HSA.out.ownw.lt q hq).1)
      have HPL : Hid (ps.length = k) := HS1.out.len (by rw [HN.out]; omega)
      have s0 : (0 : Int) ≤ (D : Int) := by omega
      have s1 : (D : Int) ≤ (c : Int) := by omega
      have s2 : ((D : Int)).toNat = D := by omega
      clear how2 hg2 b1A HSA hown hsz HS1 HG1 hne1 hne2
      go_wp2
      refine MixH.start (fun x => Below w.heap.size w x) (by kernel_rfl) ?_
      obtain ⟨wA, hwA⟩ : ∃ wA, wA = w2.drew := ⟨_, rfl⟩
      have b2A : Below w2.heap.size w2 wA := by rw [hwA]; exact (Below.refl _ _).drew
      have hS : Below w.heap.size w wA := bthen HB2.out b2A
      rw [← hwA]
      clear hwA
      refine MixH.takes [true, true, true, true, true, false, true, true, true, true, true] 8 (by kernel_rfl) (by kernel_rfl) (by decide) (by kernel_rfl) hS (fun K hK => ?_)
      simp only [Mix.pick]
      repeat (go_big_quiet_step (fail))
      refine wpQuiet_nil (hK _ ?_)
      clear hK K
      refine MixH.take 7 5 _ (.int .i64 kd) rfl (by kernel_rfl) (by kernel_rfl) (by kernel_rfl) (by kernel_rfl) (yields_int (.tmp 28) rfl ⟨b1, o1 + k * 2, none⟩ _ rfl rfl F10.out) hS (fun a' ha => ?_)
      simp only [Act.put, List.setIfInBounds_toArray, List.set_cons_succ, List.set_cons_zero] at ha
      subst ha
      refine MixH.take 6 11 _ (.slice o.a D o.c) rfl (by kernel_rfl) (by kernel_rfl) (by kernel_rfl) (by kernel_rfl) (yields_bytes (.tmp 34) rfl ⟨b1, o1 + k * 2 + 1, none⟩ _ rfl rfl F11.out) hS (fun a' ha => ?_)
      simp only [Act.put, List.setIfInBounds_toArray, List.set_cons_succ, List.set_cons_zero] at ha
      subst ha
      refine MixH.takes [false, false, false, false, false, false, false, false, false, false, false, false, true, true] 4 (by kernel_rfl) (by kernel_rfl) (by decide) (by kernel_rfl) hS (fun K hK => ?_)
      simp only [Mix.pick]
      repeat (go_big_quiet_step (fail))
      refine wpQuiet_nil (hK _ ?_)
      clear hK K
      refine MixH.one [false, false, false, false, false, false, false, false, false, false, false, false, false, false, true] 3 14 _ rfl rfl (by kernel_rfl) (by kernel_rfl) (fun K hK => ?_)
      simp only [Mix.pick]
      go_wp2
      refine ⟨rfl, hK _ _ hS ?_⟩
      clear hK K
      refine MixH.one [false, false, false, false, false, false, false, false, false, false, false, false, false, false, false, true] 2 15 _ rfl rfl (by kernel_rfl) (by kernel_rfl) (fun K hK => ?_)
      simp only [Mix.pick]
      have hSn : Below w.heap.size w (wA.alloc (.cells #[.int .i64 kd, .slice (some ⟨g, 0, none⟩) D c] 76)) := hS.alloc hS.size _
      go_wp2
      clear hS
      have hS := hSn
      refine ⟨rfl, hK _ _ hS ?_⟩
      clear hK K
      obtain ⟨w3, hw3⟩ : ∃ w3, w3 = wA.alloc (.cells #[.int .i64 kd, .slice (some ⟨g, 0, none⟩) D c] 76) := ⟨_, rfl⟩
      have TWO : Hid (∀ j u, ([.int .i64 kd, .slice (some ⟨g, 0, none⟩) D c] : List Value)[j]? = some u → w3.cell? ((⟨wA.heap.size, 0, none⟩ : Addr).add j) = some u) := by rw [hw3]; exact two_new _ _ _ _
      have b23 : Below w2.heap.size w2 w3 := by rw [hw3]; exact b2A.alloc b2A.size _
      rw [← hw3] at hS hSn ⊢
      have HM3 : Hid (w3.ownsRow w.heap.size 76 2 vm ps.length (opCs ps)) := owns_below HM2.out b23
      have HG3 : Hid (w3.ownsRow w.heap.size 5 1 (.slice (some ⟨g, 0, none⟩) (D + 3) c) (D + 3) ((toI (o.d ++ [91, 92, 93])).map (Value.int .u8))) := owns_below HG2.out b23
      have HR3 : Hid (∀ p ∈ ps, w3.ownsRow w.heap.size 5 1 (.slice p.a (p.d.length + 3) p.c) (p.d.length + 3) ((toI (p.d ++ [91, 92, 93])).map (Value.int .u8))) := fun p hp => owns_below (HR2.out p hp) b23
      have HW3 : Hid (w3.ownsRow w.heap.size 28 1 vw2 (k + 1) (wCs ps ++ [.slice (some ⟨g, 0, none⟩) (D + 3) c])) := owns_below HW2.out b23
      have HB3 : Hid (Below w.heap.size w w3) := bthen HB2.out b23
      have hown : w3.ownsRow w.heap.size 76 2 vm k (opCs ps) := by have := HM3.out; rw [HPL.out] at this; exact this
      have hsz : w.heap.size ≤ w3.heap.size := HB3.out.size
      clear hw3 hSn HM2 HG2 HR2 HW2 b23 b2A
      refine MixH.one [false, false, false, false, false, false, false, false, false, false, false, false, false, false, false, false, true] 1 16 _ rfl rfl (by kernel_rfl) (by kernel_rfl) (fun K hK => ?_)
      simp only [Mix.pick]
      refine wpList_append_own_at _ rfl (.tmp 24) (.tmp 39) 31 rfl w.heap.size 76 i0 _ 2 32 Tryz.underlying31 hi hz0 hz1 hz2 rfl (by decide) vm k (opCs ps) rfl hown ⟨wA.heap.size, 0, none⟩ 1 1 [.int .i64 kd, .slice (some ⟨g, 0, none⟩) D c] rfl rfl TWO.out ?c2 ?c3 ?c4 hsz ?_
      case c2 => intro u hu; simp at hu; rcases hu with rfl | rfl <;> rfl
      case c3 => unfold maxLen; omega
      case c4 => omega
      intro vm5 w5 ho5 hg5 _ hblk
      have HS5 : Hid (LaS w os vm5 vw2 (k + 1) (ps ++ [⟨kd, some ⟨g, 0, none⟩, c, o.d⟩]) w5) := by
        have hne : 5 ≠ 76 := by decide
        have hne2 : 28 ≠ 76 := by decide
        refine ⟨?_, ?_, ?_, ?_, ?_⟩
        · rw [opCs_snoc, List.length_append, HPL.out]
          have e2 : opC9 ⟨kd, some ⟨g, 0, none⟩, c, o.d⟩ = [.int .i64 kd, .slice (some ⟨g, 0, none⟩) D c] := by rw [opC9, ← HDD.out]
          rw [e2]
          exact ho5
        · have e3 : wCs (ps ++ [⟨kd, some ⟨g, 0, none⟩, c, o.d⟩]) = wCs ps ++ [.slice (some ⟨g, 0, none⟩) (D + 3) c] := by unfold wCs; rw [List.map_append, HDD.out]; rfl
          rw [e3, List.length_append, HPL.out]
          exact HW3.out.kept hg5 (apartN HW3.out HM3.out hne2)
        · intro p hp
          rcases List.mem_append.1 hp with hp | hp
          · exact (HR3.out p hp).kept hg5 (apartN (HR3.out p hp) HM3.out hne)
          · simp at hp
            subst hp
            show w5.ownsRow w.heap.size 5 1 (.slice (some ⟨g, 0, none⟩) (o.d.length + 3) c) (o.d.length + 3) _
            rw [← HDD.out]
            exact HG3.out.kept hg5 (apartN HG3.out HM3.out hne)
        · rw [vals_take os k o HVO.out, vals, List.map_append]
          have := HVS.out
          rw [vals] at this
          rw [this]
          simp [OpV.val, HKD.out]
        · exact HB3.out.grown hg5 hsz (fun q hq => (HM3.out.lt q hq).1)
      have hS5 : Below w.heap.size w w5 := HS5.out.bel
      clear hS
      have hS := hS5
      clear ho5 hg5 hblk hown TWO hS5
      go_wp2
      refine ⟨rfl, hK _ _ hS ?_⟩
      clear hK K
      refine MixH.takes [false, false, false, false, false, false, false, false, false, false, false, false, false, false, false, false, false, true] 0 (by kernel_rfl) (by kernel_rfl) (by decide) (by kernel_rfl) hS (fun K hK => ?_)
      simp only [Mix.pick]
      repeat (go_big_quiet_step (fail))
      refine wpQuiet_nil (hK _ ?_)
      clear hK K
      refine MixH.done (by kernel_rfl) ?_
      go_wp2
      go_roundw
      case rel => exact ⟨k + 1, vm5, vw2, _, rfl, rfl, by go_num, by omega, HS5⟩
      case measure => simp [intOf]; omega
    · have hkn : k = n := by omega
      have hni : ¬ ((k : Int) < (n : Int)) := by omega
      have hpl : ps.length = k := HS.out.len (by rw [HN.out]; omega)
      have hown : wr.ownsRow w.heap.size 76 2 vm n (opCs ps) := by have := HS.out.own; rw [hpl, hkn] at this; exact this
      obtain ⟨wa, wc, rfl⟩ := owns_shape HS.out.ownw
      have HV : Hid (vals ps = vals os) := by show _ = _; rw [HS.out.vs, List.take_of_length_le (by simp [vals, HN.out]; omega)]
      have HP : Hid (ps.length = n) := by rw [hpl]; exact hkn
      have hsz : w.heap.size ≤ wr.heap.size := HS.out.bel.size
      rw [HP.out] at HS ⊢
      clear hlt hpl hkn
      go_wp2_with (first | (at_builtin; refine wpList_append_own_at _ rfl (.tmp 41) (.tmp 43) 31 rfl w.heap.size 76 i0 _ 2 32 Tryz.underlying31 hi hz0 hz1 hz2 rfl (by decide) vm n (opCs ps) rfl (hown.alloc _) ⟨wr.heap.size, 0, none⟩ 1 1 [.int .i64 99, .slice none 0 0] rfl rfl (two_new _ _ _ _) (by intro u hu; simp at hu; rcases hu with rfl | rfl <;> rfl) (by unfold maxLen; omega) (by omega) (by first | omega | (simp; omega)) ?_))
      intro vm5 w5 ho5 hg5 _ _
      obtain ⟨ma, mc, rfl⟩ := owns_shape ho5
      have b1A : Below wr.heap.size wr (wr.alloc (.cells #[.int .i64 99, .slice none 0 0] 76)) := (Below.refl _ _).alloc (Nat.le_refl _) _
      have HF : Hid (Below w.heap.size w w5 ∧ n + 1 ≤ mc ∧ LaidAt w5 os ma wa ps ∧ LaidNew w.heap.size ma wa ps) := by
        have hsA := HS.out.below b1A
        have hne : 5 ≠ 76 := by decide
        have hne2 : 28 ≠ 76 := by decide
        have hm5 : w5.ownsRow w.heap.size 76 2 (.slice ma (n + 1) mc) (n + 1) (opCs (ps ++ [op99])) := by rw [opCs_snoc]; exact ho5
        have hcap : n + 1 ≤ mc := by
          rcases hm5.2 with ⟨_, h0⟩ | ⟨g', cap', cur, e, _, _, h1, _⟩
          · omega
          · simp only [Value.slice.injEq, true_and] at e
            rw [e.2]; exact h1
        have hw5 := hsA.ownw.kept hg5 (apartN hsA.ownw hsA.own hne2)
        rw [HP.out] at hw5
        exact ⟨hsA.bel.grown hg5 (by simp; omega) (fun q hq => (hsA.own.lt q hq).1), hcap, LaS.laid hm5 hw5 (fun p hp => (hsA.rows p hp).kept hg5 (apartN (hsA.rows p hp) hsA.own hne)) HP.out HV.out (opts_256 HO.out), fun x hx => own_addr hm5 x hx, fun x hx => (own_blk hw5 x hx).1, fun p hp x hx => (own_blk (hsA.rows p hp) x hx).1⟩
      clear ho5 hg5 b1A hown
      go_wp2
      go_ret2
      exact ⟨ma, mc, wa, wc, ps, rfl, HF.out.1, HP.out, HF.out.2.1, HF.out.2.2⟩
set_option maxHeartbeats 6400000 in
set_option maxRecDepth 100000 in
theorem same_laid (ma wa la : Option Addr) (n mc wc lc : Nat) (os ps : List OpV) (w : World) (hn : os.length = n) (hp : ps.length = n) (hm : n + 1 ≤ mc) (hl : LaidAt w os ma wa ps) (ho : OptsAt w la os) (hb : n ≤ 1048576) (hd : ∀ o ∈ os, o.d.length ≤ 1048576) :
    Calls Tryz.prog 84 #[.slice ma (n + 1) mc, .slice wa n wc, .slice la n lc] w fun e w' => e = .returned (.bool true) ∧ Below w.heap.size w w' := by
  have h99 : (ps ++ [op99])[n]? = some op99 := by rw [List.getElem?_append_right (by omega), hp, Nat.sub_self]; rfl
  obtain ⟨bm, om, rfl, hlm, _, cm0, _⟩ := hl.opts.at n op99 h99
  have c99 : w.cell? ⟨bm, om + n * 2, none⟩ = some (.int .i64 99) := cm0
  have QS : Hid _ := sameOpts_true (some ⟨bm, om, none⟩) la n mc lc ps os w hl.opts.front ho hp hl.vs (by omega)
  have HN : Hid (os.length = n) := hn
  have HP : Hid (ps.length = n) := hp
  have HL : Hid (∀ A, Below w.heap.size w A → LaidAt A os (some ⟨bm, om, none⟩) wa ps) := fun A hA => hl.old hA
  have HO : Hid (∀ A, Below w.heap.size w A → OptsAt A la os) := fun A hA => ho.old hA
  have HD : Hid (∀ o ∈ os, o.d.length ≤ 1048576) := hd
  have HVS : Hid (vals ps = vals os) := hl.vs
  have w1 : IntKind.i64.wrap ((n : Int) + 1) = (n : Int) + 1 := by rw [IntKind.wrap_i64]; omega
  have q1 : (((n + 1 : Nat) : Int) != (n : Int) + 1) = false := by simp
  have k0 : (0 : Int) ≤ (n : Int) := by omega
  have k1 : (n : Int) < ((n + 1 : Nat) : Int) := by omega
  have k2 : ((n : Int)).toNat = n := by omega
  have k3 : (n : Int) ≤ (mc : Int) := by omega
  clear hn hp hl ho hd h99 cm0 hlm
  go_enter Tryz.func84, Tryz.ntmps84
  go_wp2_with fail
  refine Calls.mono QS.out ?_
  rintro e w1' ⟨rfl, bel1⟩
  clear QS c99
  go_wp2
  go_loopw [8] (fun ix wr => ∃ k : Nat, ix = .int .i64 k ∧ k ≤ n ∧ Hid (Below w.heap.size w wr)) (fun ix _ => n - (intOf ix).toNat)
  case atStart => exact ⟨0, rfl, Nat.zero_le _, bel1⟩
  case round =>
    obtain ⟨k, rfl, hk, HBE⟩ := hrel
    by_cases hlt : k < n
    · obtain ⟨o, hok⟩ : ∃ o, os[k]? = some o := ⟨_, List.getElem?_eq_getElem (by rw [HN.out]; exact hlt)⟩
      obtain ⟨p, hpk⟩ : ∃ p, ps[k]? = some p := ⟨_, List.getElem?_eq_getElem (by rw [HP.out]; exact hlt)⟩
      have hpo : p.d = o.d := by
        have h1 : (vals ps)[k]? = (vals os)[k]? := by rw [HVS.out]
        simp only [vals, List.getElem?_map, hpk, hok, Option.map_some, Option.some.injEq] at h1
        exact congrArg Prod.snd h1
      obtain ⟨gw, g, rfl, hgw, cw, hsg, hcap, _⟩ := (HL.out w (Below.refl _ _)).wb k p hpk
      obtain ⟨b1, o1, rfl, hl1, ok1, _, c11⟩ := (HO.out w (Below.refl _ _)).at k o hok
      have hdl := HD.out o (List.mem_of_getElem? hok)
      rw [hpo] at cw hsg hcap
      obtain ⟨D, hDD⟩ : ∃ D, D = o.d.length := ⟨_, rfl⟩
      rw [← hDD] at c11 hdl cw hcap
      have F3 : Hid (∀ x, Below w.heap.size w x → x.cell? ⟨gw, k, none⟩ = some (.slice (some ⟨g, 0, none⟩) (D + 3) p.c)) := fun x hx => (hx.cell (p := ⟨gw, k, none⟩) hgw).trans cw
      have F8 : Hid (∀ x, Below w.heap.size w x → x.cell? ⟨b1, o1 + k * 2 + 1, none⟩ = some (.slice o.a D o.c)) := fun x hx => (hx.cell (p := ⟨b1, o1 + k * 2 + 1, none⟩) hl1).trans c11
      have QK : Hid (∀ x, Below w.heap.size w x → Calls Tryz.prog 82 #[.slice (some ⟨g, 0, none⟩) (D + 3) p.c, .slice o.a D o.c] x fun e w' => e = .returned (.bool true) ∧ x = w') := fun x hx => kept_any g 0 o.a D p.c o.c o.d x hDD.symm (hsg.old hx) (ok1.seg.old hx) ok1.h256 hcap hdl
      have j0 : (0 : Int) ≤ (k : Int) := by omega
      have j1 : (k : Int) < (n : Int) := by omega
      have j2 : ((k : Int)).toNat = k := by omega
      have wk : IntKind.i64.wrap ((k : Int) + 1) = (k : Int) + 1 := by rw [IntKind.wrap_i64]; omega
      clear hok hpk hpo cw hsg hcap hl1 ok1 c11 hDD hgw
      go_wp2
      refine MixH.start (fun x => Below w.heap.size w x) (by kernel_rfl) ?_
      obtain ⟨wA, hwA⟩ : ∃ wA, wA = wr.drew := ⟨_, rfl⟩
      have hS : Below w.heap.size w wA := by rw [hwA]; exact HBE.out.drew
      rw [← hwA]
      clear hwA HBE
      refine MixH.takes [true, true, true, false, true, true, true, true] 4 (by kernel_rfl) (by kernel_rfl) (by decide) (by kernel_rfl) hS (fun K hK => ?_)
      simp only [Mix.pick]
      repeat (go_big_quiet_step (fail))
      refine wpQuiet_nil (hK _ ?_)
      clear hK K
      refine MixH.take 3 3 _ (.slice (some ⟨g, 0, none⟩) (D + 3) p.c) rfl (by kernel_rfl) (by kernel_rfl) (by kernel_rfl) (by kernel_rfl) (yields_bytes (.tmp 40) rfl ⟨gw, k, none⟩ _ rfl rfl F3.out) hS (fun a' ha => ?_)
      simp only [Act.put, List.setIfInBounds_toArray, List.set_cons_succ, List.set_cons_zero] at ha
      subst ha
      refine MixH.take 2 8 _ (.slice o.a D o.c) rfl (by kernel_rfl) (by kernel_rfl) (by kernel_rfl) (by kernel_rfl) (yields_bytes (.tmp 45) rfl ⟨b1, o1 + k * 2 + 1, none⟩ _ rfl rfl F8.out) hS (fun a' ha => ?_)
      simp only [Act.put, List.setIfInBounds_toArray, List.set_cons_succ, List.set_cons_zero] at ha
      subst ha
      refine MixH.one [false, false, false, false, false, false, false, false, false, true] 1 9 _ rfl rfl (by kernel_rfl) (by kernel_rfl) (fun K hK => ?_)
      simp only [Mix.pick]
      go_wp2_with fail
      refine Calls.mono (QK.out wA hS) ?_
      rintro e wN ⟨rfl, rfl⟩
      go_wp2
      refine ⟨rfl, hK _ _ hS ?_⟩
      clear hK K
      refine MixH.takes [false, false, false, false, false, false, false, false, false, false, true] 0 (by kernel_rfl) (by kernel_rfl) (by decide) (by kernel_rfl) hS (fun K hK => ?_)
      simp only [Mix.pick]
      repeat (go_big_quiet_step (fail))
      refine wpQuiet_nil (hK _ ?_)
      clear hK K
      refine MixH.done (by kernel_rfl) ?_
      go_wp2
      go_roundw
      case rel => exact ⟨k + 1, by go_num, by omega, hS⟩
      case measure => simp [intOf]; omega
    · have hni : ¬ ((k : Int) < (n : Int)) := by omega
      clear hlt
      go_wp2
      go_ret
      exact ⟨rfl, HBE.out⟩
end Go.Proofs.YtfoeepbndfnifaaGreatDoor
namespace Go.Proofs.YtfoeepbndfnifaaGreatDoor
open Go.RowKit Go.ChangeShapes Go.WideShapes
open L4 (U9 T9)

/-- one call: its kind, two addresses, bytes, a datagram, a segment, options, a number -/
structure Cl9 where
  kind : Int
  V : Int
  x : Nat → Nat
  U : Int
  y : Nat → Nat
  ba : Option Addr
  bn : Nat
  bc : Nat
  bs : List Nat
  u : U9
  ua : Option Addr
  un : Nat
  uc : Nat
  t : T9
  la : Option Addr
  ln : Nat
  lc : Nat
  os : List OpV
  da : Option Addr
  n : Nat
  c : Nat
  ma : Option Addr
  mn : Nat
  mc : Nat
  ms : List OpV
  N : Int
def Cl9.cells (o : Cl9) : List Value := [.int .i64 o.kind] ++ ((ipCells o.V o.x).toList ++ ((ipCells o.U o.y).toList ++ ([.slice o.ba o.bn o.bc] ++ ((uC o.u o.ua o.un o.uc).toList ++ ((tC o.t o.la o.ln o.lc o.da o.n o.c).toList ++ ([.slice o.ma o.mn o.mc] ++ [.int .i64 o.N]))))))
structure Cl9.Ok (w : World) (o : Cl9) : Prop where
  x256 : ∀ i, i < 16 → o.x i < 256
  y256 : ∀ i, i < 16 → o.y i < 256
  b : DOk w o.bs o.ba o.bn o.bc
  bm : o.bn ≤ 1048576
  ud : DOk w o.u.d o.ua o.un o.uc
  um : o.un ≤ 1048576
  tk : TOk w o.t o.la o.ln o.os o.da o.n o.c
  tln : o.ln ≤ 1048576
  tsm : ∀ p ∈ o.os, p.d.length ≤ 1048576
  tn : o.n ≤ 1048576
  ml : o.ms.length = o.mn
  mo : OptsAt w o.ma o.ms
  mm : o.mn ≤ 1048576
  md : ∀ p ∈ o.ms, p.d.length ≤ 1048576
theorem Cl9.Ok.old {w w' : World} {o : Cl9} (h : o.Ok w) (hb : Below w.heap.size w w') : o.Ok w' :=
  { h with b := h.b.old hb, ud := h.ud.old hb, tk := h.tk.old hb, mo := h.mo.old hb }
theorem Tryz.cellsR' : Tryz.prog.cellsOf 84 = 51 := by kernel_rfl
theorem Cl9.cells_len (o : Cl9) : o.cells.length = 51 := rfl
theorem drop_piece (l p : List Value) (k m : Nat) (h : (l.drop k).take m = p) : l.drop k = p ++ l.drop (k + m) := by
  rw [← h, ← List.drop_drop, List.take_append_drop]
section
variable {H : Type} {enc : TypeId × Value → H} {W : World}
set_option maxRecDepth 100000 in
set_option maxHeartbeats 1600000 in
theorem open_cl9 (fuel : Nat) (cs : List Value) (x : DataW H × List MemPlace) (hf : DataW.trod enc Tryz.prog W 0 (fun _ => true) true fuel 84 cs = some x) (hbk : Rows.uptoBulk x.1 ≤ 1048576) : ∃ o : Cl9, cs = o.cells ∧ o.Ok W := by
  obtain ⟨xs, n, _, hx, hl, hlen, hfs⟩ := DataW.trod_struct Tryz.underlying84 hf
  rw [Tryz.cellsR'] at hl
  have f0 : DataW.trod enc Tryz.prog W 0 (fun _ => true) true n 3 ((cs.drop 0).take (Tryz.prog.cellsOf 3)) = xs[0]? := hfs 0 _ rfl
  have f1 : DataW.trod enc Tryz.prog W 0 (fun _ => true) true n 27 ((cs.drop 1).take (Tryz.prog.cellsOf 27)) = xs[1]? := hfs 1 _ rfl
  have f2 : DataW.trod enc Tryz.prog W 0 (fun _ => true) true n 27 ((cs.drop 18).take (Tryz.prog.cellsOf 27)) = xs[2]? := hfs 2 _ rfl
  have f3 : DataW.trod enc Tryz.prog W 0 (fun _ => true) true n 28 ((cs.drop 35).take (Tryz.prog.cellsOf 28)) = xs[3]? := hfs 3 _ rfl
  have f4 : DataW.trod enc Tryz.prog W 0 (fun _ => true) true n 30 ((cs.drop 36).take (Tryz.prog.cellsOf 30)) = xs[4]? := hfs 4 _ rfl
  have f5 : DataW.trod enc Tryz.prog W 0 (fun _ => true) true n 33 ((cs.drop 40).take (Tryz.prog.cellsOf 33)) = xs[5]? := hfs 5 _ rfl
  have f6 : DataW.trod enc Tryz.prog W 0 (fun _ => true) true n 31 ((cs.drop 49).take (Tryz.prog.cellsOf 31)) = xs[6]? := hfs 6 _ rfl
  have f7 : DataW.trod enc Tryz.prog W 0 (fun _ => true) true n 3 ((cs.drop 50).take (Tryz.prog.cellsOf 3)) = xs[7]? := hfs 7 _ rfl
  have hxl : xs.length = 8 := hlen
  rw [Tryz.cellsI'] at f0 f7
  rw [Tryz.cellsIP'] at f1 f2
  rw [Tryz.cellsS'] at f3
  rw [Tryz.cellsU'] at f4
  rw [Tryz.cellsT'] at f5
  rw [Tryz.cellsO'] at f6
  rw [List.getElem?_eq_getElem (by omega)] at f0 f1 f2 f3 f4 f5 f6 f7
  have hd : x.1 = .agg (xs.map (·.1)) := (Prod.mk.inj hx).1
  have hbb : ∀ i (hi : i < xs.length), Rows.uptoBulk xs[i].1 ≤ 1048576 := by
    intro i hi
    have := bulk_memG (d := xs[i].1) (l := xs.map (·.1)) (List.mem_map.2 ⟨xs[i], List.getElem_mem hi, rfl⟩)
    rw [hd] at hbk
    simp only [Rows.uptoBulk] at hbk
    omega
  obtain ⟨z0, e0, _, _⟩ := DataW.trod_int Tryz.underlying3 f0
  obtain ⟨V, xx, e1, hx1⟩ := open_ipc f1
  obtain ⟨U, yy, e2, hx2⟩ := open_ipc f2
  obtain ⟨ba, bn, bc, zs, e3, hrow, hcap⟩ := open_bytes f3
  obtain ⟨bs, hbl, hseg, h1, h2, h3⟩ := hrow.bytes
  have hc3 := hbb 3 (by omega)
  obtain ⟨u, ua, un, uc, e4, hu1, hu2⟩ := open_u9c f4 (hbb 4 (by omega))
  obtain ⟨t, la, ln, lc, os, da, dn, dc, e5, ht1, ht2, ht3, ht4⟩ := open_t9c f5 (hbb 5 (by omega))
  obtain ⟨ma, mn, mc, ms, e6, hml, hmo, hmm, hmd⟩ := open_optl f6 (hbb 6 (by omega))
  obtain ⟨z7, e7, _, _⟩ := DataW.trod_int Tryz.underlying3 f7
  refine ⟨⟨z0, V, xx, U, yy, ba, bn, bc, bs, u, ua, un, uc, t, la, ln, lc, os, da, dn, dc, ma, mn, mc, ms, z7⟩, ?_, ⟨fun i _ => hx1 i, fun i _ => hx2 i, ⟨hbl, hseg, h3, h1, h2, by show bn ≤ _; omega⟩, by show bn ≤ _; omega, hu1, hu2, ht1, ht2, ht3, ht4, hml, hmo, hmm, hmd⟩⟩
  have hall : cs = [.int .i64 z0] ++ ((ipCells V xx).toList ++ ((ipCells U yy).toList ++ ([.slice ba bn bc] ++ ((uC u ua un uc).toList ++ ((tC t la ln lc da dn dc).toList ++ ([.slice ma mn mc] ++ ([.int .i64 z7] ++ cs.drop 51))))))) := by
    conv => lhs; rw [← List.drop_zero (l := cs)]
    rw [drop_piece cs _ 0 1 e0, drop_piece cs _ 1 17 e1, drop_piece cs _ 18 17 e2, drop_piece cs _ 35 1 e3, drop_piece cs _ 36 4 e4, drop_piece cs _ 40 9 e5, drop_piece cs _ 49 1 e6, drop_piece cs _ 50 1 e7]
  have hnil : cs.drop 51 = [] := List.drop_eq_nil_of_le (by omega)
  rw [hnil] at hall
  rw [hall]
  rfl
theorem open_script9 {fuel : Nat} {a : Option Addr} {len cap : Nat} {d : DataW H} {p : List MemPlace} (hf : DataW.trod enc Tryz.prog W 0 (fun _ => true) true fuel 22 [.slice a len cap] = some (d, p)) (hb : Rows.uptoBulk d ≤ 1048576) :
    ∃ rs : List Cl9, rs.length = len ∧ ListG 51 Cl9.cells (Cl9.Ok W) W a rs ∧ len ≤ 1048576 :=
  open_list 51 Cl9.cells (Cl9.Ok W) Tryz.underlying22 Tryz.cellsR' (by decide) Cl9.cells_len open_cl9 hf hb
end
theorem Tryz.sizeOp : (Tryz.prog.info? 84).map (·.size) = some 51 := by kernel_rfl
/-- a call in a block of its own -/
def OpAt (w : World) (O : Nat) (o : Cl9) : Prop := w.heap[O]? = some (.cells o.cells.toArray 84 (0, 0))
section
variable {w : World} {O : Nat} {o : Cl9} (k : OpAt w O o)
include k
theorem OpAt.lt : O < w.heap.size := (Array.getElem?_eq_some_iff.1 k).1
theorem OpAt.ch {S : Nat → Prop} {w' : World} (c : Ch S w w') (hS : ¬ S O) : OpAt w' O o := (c.block O k.lt hS).trans k
theorem OpAt.below {w' : World} (c : Below w.heap.size w w') : OpAt w' O o := (c.block O k.lt).trans k
theorem OpAt.cell (i : Nat) : w.cell? ⟨O, i, none⟩ = o.cells[i]? := by unfold OpAt at k; simp [World.cell?, k]
theorem OpAt.c0 : w.cell? ⟨O, 0, none⟩ = some (.int .i64 o.kind) := k.cell 0
theorem OpAt.cb : w.cell? ⟨O, 35, none⟩ = some (.slice o.ba o.bn o.bc) := k.cell 35
theorem OpAt.cu : w.cell? ⟨O, 39, none⟩ = some (.slice o.ua o.un o.uc) := k.cell 39
theorem OpAt.cl : w.cell? ⟨O, 47, none⟩ = some (.slice o.la o.ln o.lc) := k.cell 47
theorem OpAt.cd : w.cell? ⟨O, 48, none⟩ = some (.slice o.da o.n o.c) := k.cell 48
theorem OpAt.cm : w.cell? ⟨O, 49, none⟩ = some (.slice o.ma o.mn o.mc) := k.cell 49
theorem OpAt.cn : w.cell? ⟨O, 50, none⟩ = some (.int .i64 o.N) := k.cell 50
theorem OpAt.range (off : Nat) (cs : List Value) (h : ∀ j v, cs[j]? = some v → o.cells[off + j]? = some v) : w.rangeAt O off cs := by
  intro j v hj
  rw [k.cell]
  exact h j v hj
theorem OpAt.src : w.rangeAt O 1 (ipCells o.V o.x).toList := k.range 1 _ (fun j v hj => by
  have hl : j < 17 := (List.getElem?_eq_some_iff.1 hj).1
  unfold Cl9.cells
  rw [List.getElem?_append_right (by simp), List.getElem?_append_left (by simp [ipCells]; omega)]
  simpa using hj)
theorem OpAt.dst : w.rangeAt O 18 (ipCells o.U o.y).toList := k.range 18 _ (fun j v hj => by
  have hl : j < 17 := (List.getElem?_eq_some_iff.1 hj).1
  unfold Cl9.cells
  rw [List.getElem?_append_right (by simp; omega), List.getElem?_append_right (by simp [ipCells] <;> omega), List.getElem?_append_left (by simp [ipCells] <;> omega)]
  have e : 18 + j - [Value.int .i64 o.kind].length - (ipCells o.V o.x).toList.length = j := by simp [ipCells] <;> omega
  rw [e]
  exact hj)
theorem OpAt.ur : w.rangeAt O 36 (uC o.u o.ua o.un o.uc).toList := k.range 36 _ (fun j v hj => by
  have hl : j < 4 := (List.getElem?_eq_some_iff.1 hj).1
  have hj4 : j = 0 ∨ j = 1 ∨ j = 2 ∨ j = 3 := by omega
  rcases hj4 with rfl | rfl | rfl | rfl <;> exact hj)
theorem OpAt.tr : w.rangeAt O 40 (tC o.t o.la o.ln o.lc o.da o.n o.c).toList := k.range 40 _ (fun j v hj => by
  have hl : j < 9 := (List.getElem?_eq_some_iff.1 hj).1
  have hj9 : j = 0 ∨ j = 1 ∨ j = 2 ∨ j = 3 ∨ j = 4 ∨ j = 5 ∨ j = 6 ∨ j = 7 ∨ j = 8 := by omega
  rcases hj9 with rfl | rfl | rfl | rfl | rfl | rfl | rfl | rfl | rfl <;> exact hj)
end
theorem opAt_new (w : World) (o : Cl9) : OpAt (w.alloc (.cells o.cells.toArray 84)) w.heap.size o := heap_alloc_new _ _
/-- an address, a datagram, a segment out of a call, as one step -/
theorem wpList_load_ipm {ops : Array Oper} {rest : List Oper} {p : Oper} {a : Act} {w : World} {Q : Exit → Act → World → Prop} (x : Operand) (ho : p.op = .load 27 x) (O off : Nat) (V : Int) (f : Nat → Nat) (hx : a.eval x = .pointer (some ⟨O, off, none⟩)) (hb : w.rangeAt O off (ipCells V f).toList)
    (hw : Region.wanted p (yielded ops a.tmps) = true) (h : wpList Tryz.prog ops Q rest (a.put p.dst (.agg (ipCells V f))) w) : wpList Tryz.prog ops Q (p :: rest) a w := by
  refine wpList_step fun K hK => ?_
  rw [if_pos hw]
  exact wp_load_mid 27 x ho O off hx _ _ hb Tryz.underlying27 rfl Tryz.sizeIPz (hK _ _ h)
theorem wpList_load_um {ops : Array Oper} {rest : List Oper} {p : Oper} {a : Act} {w : World} {Q : Exit → Act → World → Prop} (x : Operand) (ho : p.op = .load 30 x) (O off : Nat) (u : U9) (da : Option Addr) (n c : Nat) (hx : a.eval x = .pointer (some ⟨O, off, none⟩)) (hb : w.rangeAt O off (uC u da n c).toList)
    (hw : Region.wanted p (yielded ops a.tmps) = true) (h : wpList Tryz.prog ops Q rest (a.put p.dst (.agg (uC u da n c))) w) : wpList Tryz.prog ops Q (p :: rest) a w := by
  refine wpList_step fun K hK => ?_
  rw [if_pos hw]
  exact wp_load_mid 30 x ho O off hx _ _ hb Tryz.underlying30 rfl Tryz.sizeU9 (hK _ _ h)
theorem wpList_load_tm {ops : Array Oper} {rest : List Oper} {p : Oper} {a : Act} {w : World} {Q : Exit → Act → World → Prop} (x : Operand) (ho : p.op = .load 33 x) (O off : Nat) (t : T9) (la : Option Addr) (ln lc : Nat) (da : Option Addr) (n c : Nat) (hx : a.eval x = .pointer (some ⟨O, off, none⟩)) (hb : w.rangeAt O off (tC t la ln lc da n c).toList)
    (hw : Region.wanted p (yielded ops a.tmps) = true) (h : wpList Tryz.prog ops Q rest (a.put p.dst (.agg (tC t la ln lc da n c))) w) : wpList Tryz.prog ops Q (p :: rest) a w := by
  refine wpList_step fun K hK => ?_
  rw [if_pos hw]
  exact wp_load_mid 33 x ho O off hx _ _ hb Tryz.underlying33 rfl Tryz.sizeT9 (hK _ _ h)
theorem yields_ipm {ops : Array Oper} {p : Oper} {a : Act} {S : World → Prop} (x : Operand) (ho : p.op = .load 27 x) (O off : Nat) (V : Int) (f : Nat → Nat) (hx : a.eval x = .pointer (some ⟨O, off, none⟩)) (hw : Region.wanted p (yielded ops a.tmps) = true) (hS : ∀ w, S w → w.rangeAt O off (ipCells V f).toList) : YieldsIf Tryz.prog ops S p (.agg (ipCells V f)) a :=
  yieldsIf_load_mid hw 27 x ho O off hx _ _ hS Tryz.underlying27 rfl Tryz.sizeIPz
theorem yields_um {ops : Array Oper} {p : Oper} {a : Act} {S : World → Prop} (x : Operand) (ho : p.op = .load 30 x) (O off : Nat) (u : U9) (da : Option Addr) (n c : Nat) (hx : a.eval x = .pointer (some ⟨O, off, none⟩)) (hw : Region.wanted p (yielded ops a.tmps) = true) (hS : ∀ w, S w → w.rangeAt O off (uC u da n c).toList) : YieldsIf Tryz.prog ops S p (.agg (uC u da n c)) a :=
  yieldsIf_load_mid hw 30 x ho O off hx _ _ hS Tryz.underlying30 rfl Tryz.sizeU9
theorem yields_tm {ops : Array Oper} {p : Oper} {a : Act} {S : World → Prop} (x : Operand) (ho : p.op = .load 33 x) (O off : Nat) (t : T9) (la : Option Addr) (ln lc : Nat) (da : Option Addr) (n c : Nat) (hx : a.eval x = .pointer (some ⟨O, off, none⟩)) (hw : Region.wanted p (yielded ops a.tmps) = true) (hS : ∀ w, S w → w.rangeAt O off (tC t la ln lc da n c).toList) : YieldsIf Tryz.prog ops S p (.agg (tC t la ln lc da n c)) a :=
  yieldsIf_load_mid hw 33 x ho O off hx _ _ hS Tryz.underlying33 rfl Tryz.sizeT9
theorem wpList_load_op {ops : Array Oper} {rest : List Oper} {p : Oper} {a : Act} {w : World} {Q : Exit → Act → World → Prop} (x : Operand) (ho : p.op = .load 84 x) (O : Nat) (o : Cl9) (hx : a.eval x = .pointer (some ⟨O, 0, none⟩)) (hb : OpAt w O o)
    (hw : Region.wanted p (yielded ops a.tmps) = true) (hh : wpList Tryz.prog ops Q rest (a.put p.dst (.agg o.cells.toArray)) w) : wpList Tryz.prog ops Q (p :: rest) a w := by
  refine wpList_step fun K hK => ?_
  rw [if_pos hw]
  exact wp_load_row 84 x ho O hx _ _ _ _ hb Tryz.underlying84 rfl Tryz.sizeOp (hK _ _ hh)
theorem wpList_load_opm {ops : Array Oper} {rest : List Oper} {p : Oper} {a : Act} {w : World} {Q : Exit → Act → World → Prop} (x : Operand) (ho : p.op = .load 84 x) (b off : Nat) (o : Cl9) (hx : a.eval x = .pointer (some ⟨b, off, none⟩)) (hb : w.rangeAt b off o.cells)
    (hw : Region.wanted p (yielded ops a.tmps) = true) (hh : wpList Tryz.prog ops Q rest (a.put p.dst (.agg o.cells.toArray)) w) : wpList Tryz.prog ops Q (p :: rest) a w := by
  refine wpList_step fun K hK => ?_
  rw [if_pos hw]
  exact wp_load_mid 84 x ho b off hx o.cells _ hb Tryz.underlying84 rfl Tryz.sizeOp (hK _ _ hh)
end Go.Proofs.YtfoeepbndfnifaaGreatDoor
