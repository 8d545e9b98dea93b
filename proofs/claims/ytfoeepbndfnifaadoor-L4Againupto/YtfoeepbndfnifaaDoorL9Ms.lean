/-
  l4.told, Mss, bytes.Clone.
-/
import Derived.Test.YtfoeepbndfnifaaDoorL9WT
import Derived.Deep.Onto
import Derived.Lib.SliceRun
namespace Go.Proofs.YtfoeepbndfnifaaDoor
open Go.RowKit
open L4 (U9 T9)

theorem own_blk {w : World} {B : Nat} {e : TypeId} {a : Option Addr} {n c m : Nat} {xs : List Value} (h : w.ownsRow B e 1 (.slice a n c) m xs) (z : Addr) (hz : a = some z) : B ≤ z.block ∧ z.block < w.heap.size := h.lt z.block (by rw [hz]; rfl)
theorem wpList_append_full {P : Program} {w : World} {ops : Array Oper} {rest : List Oper} {o : Oper} {a : Act} {Q : Exit → Act → World → Prop} (hgd : o.guard = none) (s x : Operand) (t : TypeId)
    (ho : o.op = .call { callee := .builtin .append, args := #[s, x], argTypes := #[t, t] })
    (e : TypeId) (i : TypeInfo) (z : Value) (bytes : Nat) (ht : P.underlying t = some (.slice e)) (hi : P.info? e = some i) (hz : i.zero = some z)
    (hsize : i.size = 1) (hby : i.bytes = bytes) (hzs : z.cells.size = 1)
    (k : IntKind) (ao : Addr) (n : Nat) (zs : List Int) (hs : a.eval s = .slice (some ao) n n) (hn : zs.length = n) (hseg : Seg k w (some ao) zs)
    (ad : Addr) (m c : Nat) (news : List Value) (hx : a.eval x = .slice (some ad) m c) (hl : news.length = m) (hnews : ∀ j u, news[j]? = some u → w.cell? (ad.add j) = some u) (hm : 0 < m)
    (h63 : n + m ≤ maxLen) (hbytes : (n + m) * bytes ≤ 140737488355328)
    (h : ∀ v' w', w'.ownsRow w.heap.size e 1 v' (n + m) (zs.map (Value.int k) ++ news) → w.grownBy w' none → wpList P ops Q rest (a.put o.dst v') w') : wpList P ops Q (o :: rest) a w := by
  refine wpList_plain hgd fun K hK => ?_
  have holds : ∀ j u, (zs.map (Value.int k))[j]? = some u → w.cell? (ao.add j) = some u := by
    intro j u hu
    have hj : j < zs.length := by simpa using (List.getElem?_eq_some_iff.1 hu).1
    rcases hseg with h0 | ⟨b, off, e1, hc⟩
    · rw [h0] at hj; simp at hj
    · simp only [Option.some.injEq] at e1
      subst e1
      rw [Addr.add_lit, hc j hj]
      simp [List.getElem?_eq_getElem hj] at hu
      rw [← hu]
      simp [List.getD, hj]
  obtain ⟨v', w', hrun, r1, r2⟩ := run_append_arg_grows (P := P) w t o.type e i z 1 bytes ht hi hz hsize hby hzs (by decide) ao n n (zs.map (Value.int k)) (by simpa using hn) holds ad m c news (by simpa using hl) hnews (by omega) h63 hbytes
  unfold Oper.wp
  simp [execOp, ho, resolve, invoke, builtin, hs, hx, hrun, Result.andThen]
  exact hK _ _ (h v' w' r1 r2)

theorem append_new {P : Program} {w : World} {ops : Array Oper} {rest : List Oper} {o : Oper} {a : Act} {Q : Exit → Act → World → Prop} (hgd : o.guard = none) (s x : Operand) (t : TypeId)
    (ho : o.op = .call { callee := .builtin .append, args := #[s, x], argTypes := #[t, t] })
    (e : TypeId) (i : TypeInfo) (z : Value) (bytes : Nat) (ht : P.underlying t = some (.slice e)) (hi : P.info? e = some i) (hz : i.zero = some z)
    (hsize : i.size = 1) (hby : i.bytes = bytes) (hzs : z.cells.size = 1)
    (B : Nat) (va : Option Addr) (n : Nat) (l : List Int) (hs : a.eval s = .slice va n n) (hown : w.ownsRow B e 1 (.slice va n n) n (l.map (Value.int .u8)))
    (ad : Addr) (m c : Nat) (zs : List Int) (hx : a.eval x = .slice (some ad) m c) (hm : zs.length = m) (hseg : Seg .u8 w (some ad) zs) (h0 : 0 < m)
    (h63 : n + m ≤ maxLen) (hbytes : (n + m) * bytes ≤ 140737488355328)
    (h : ∀ v' w', w'.ownsRow w.heap.size e 1 v' (n + m) ((l ++ zs).map (Value.int .u8)) → Below w.heap.size w w' → wpList P ops Q rest (a.put o.dst v') w') : wpList P ops Q (o :: rest) a w := by
  have hl : l.length = n := by have := hown.1; simpa using this
  rcases hown.2 with ⟨e0, hn0⟩ | ⟨g, cap, cur, e0, _⟩
  · refine append_split_seg hgd s x t ho w.heap.size e i z bytes ht hi hz hsize hby hzs (.slice none 0 0) 0 [] (by rw [hs]; exact e0) (World.ownsRow_nil _ _ _ _) .u8 (some ad) m c zs hx hm hseg (by omega) (by rw [hn0] at hbytes; simpa using hbytes) (Nat.le_refl _) ?_
    intro v' w' ho' _ hg
    have hl0 : l = [] := List.eq_nil_of_length_eq_zero (by omega)
    refine h v' w' ?_ ((Below.refl _ _).grown hg (Nat.le_refl _) (by intro k hk; simp [Value.ownBlock] at hk))
    rw [hn0, hl0]
    simpa using ho'
  · simp only [Value.slice.injEq, true_and] at e0
    obtain ⟨rfl, rfl⟩ := e0
    refine wpList_append_full hgd s x t ho e i z bytes ht hi hz hsize hby hzs .u8 ⟨g, 0, none⟩ n l hs hl (owns_seg_at hown).1 ad m c (zs.map (Value.int .u8)) hx (by simpa using hm) ?_ h0 h63 hbytes ?_
    · intro j u hu
      have hj : j < zs.length := by simpa using (List.getElem?_eq_some_iff.1 hu).1
      rcases hseg with hn | ⟨b, off, e1, hc⟩
      · rw [hn] at hj; simp at hj
      · simp only [Option.some.injEq] at e1
        subst e1
        rw [Addr.add_lit, hc j hj]
        simp [List.getElem?_eq_getElem hj] at hu
        rw [← hu]
        simp [List.getD, hj]
    · intro v' w' ho' hg
      refine h v' w' ?_ ((Below.refl _ _).grown hg (Nat.le_refl _) (by intro k hk; simp at hk))
      rw [List.map_append]
      exact ho'
theorem num2 (a b : Nat) : M.numB [a, b] = a * 256 + b := by simp [M.numB]
theorem two_list (d : List Nat) (h : d.length = 2) : d = [d.getD 0 0, d.getD 1 0] := by
  match d, h with
  | [a, b], _ => rfl
set_option maxHeartbeats 800000 in
theorem told_any (o : OpV) (w : World) (ho : OpOk w o) : Calls Tryd.prog 52 #[.agg #[.int .i64 o.k, .slice o.a o.d.length o.c]] w fun e w' => e = .returned (.tuple #[.int .i64 ((L4.toldV o.val : Nat) : Int), .bool (L4.tells o.val)]) ∧ Below w.heap.size w w' := by
  have bel : Below w.heap.size w (w.alloc (.cells #[.int .i64 o.k, .slice o.a o.d.length o.c] 68)) := (Below.refl _ _).alloc (Nat.le_refl _) _
  have HU : Hid (∀ W, Below w.heap.size w W → _) := fun W hW => uint_total o.a o.d.length o.c 0 2 o.d W rfl (ho.seg.old hW) ho.h256 ho.le ho.cap (by decide)
  have h256 := fun i => I4.getD_lt o.d ho.h256 i
  have HB : Hid (o.d.getD 0 0 < 256 ∧ o.d.getD 1 0 < 256) := ⟨h256 0, h256 1⟩
  obtain ⟨K, hK⟩ : ∃ K, K = o.k := ⟨_, rfl⟩
  obtain ⟨L, hL⟩ : ∃ L, L = o.d.length := ⟨_, rfl⟩
  rw [← hK, ← hL] at bel ⊢
  rw [← hL] at HU
  have HK : Hid (K = o.k) := hK
  have HL : Hid (L = o.d.length) := hL
  clear ho h256 hK hL
  by_cases k2 : K = 2
  case neg =>
    have b1 : (K != 2) = true := by rw [bne_iff_ne]; exact k2
    have HT : Hid (L4.tells o.val = false ∧ L4.toldV o.val = 0) := by
      have e : L4.tells o.val = false := by unfold L4.tells; rw [decide_eq_false (by show ¬ o.k = 2; rw [← HK.out]; exact k2)]; rfl
      exact ⟨e, by unfold L4.toldV; rw [e]; rfl⟩
    clear k2
    go_enter Tryd.func52, Tryd.ntmps52
    go_wp2
    go_ret2
    exact ⟨by rw [HT.out.1, HT.out.2]; rfl, bel⟩
  subst k2
  by_cases l2 : L = 2
  case neg =>
    have b1 : ((L : Int) != 2) = true := by rw [bne_iff_ne]; omega
    have HT : Hid (L4.tells o.val = false ∧ L4.toldV o.val = 0) := by
      have e : L4.tells o.val = false := by unfold L4.tells; rw [decide_eq_false (p := o.val.2.length = 2) (by show ¬ o.d.length = 2; rw [← HL.out]; exact l2), Bool.and_false]
      exact ⟨e, by unfold L4.toldV; rw [e]; rfl⟩
    clear l2
    go_enter Tryd.func52, Tryd.ntmps52
    go_wp2
    go_ret2
    exact ⟨by rw [HT.out.1, HT.out.2]; rfl, bel⟩
  subst l2
  have HE : Hid (uE 2 0 2 = 0) := by show uE 2 0 2 = 0; decide
  have HV : Hid (uV o.d 0 2 = ((o.d.getD 0 0 * 256 + o.d.getD 1 0 : Nat) : Int)) := by
    show _ = _
    unfold uV
    rw [← HL.out, if_pos HE.out]
    have e := two_list o.d HL.out.symm
    rw [show (o.d.drop (0 : Int).toNat).take (2 : Int).toNat = [o.d.getD 0 0, o.d.getD 1 0] by
      rw [show (0 : Int).toNat = 0 from rfl, show (2 : Int).toNat = 2 from rfl, List.drop_zero, List.take_of_length_le (by rw [← HL.out]; exact Nat.le_refl _)]; exact e, num2]
  have QU := HU.out _ bel
  rw [HE.out, HV.out] at QU
  have HT : Hid (L4.tells o.val = true ∧ L4.toldV o.val = o.d.getD 0 0 * 256 + o.d.getD 1 0) := by
    have e : L4.tells o.val = true := by unfold L4.tells; rw [decide_eq_true (p := o.val.1 = 2) (by show o.k = 2; rw [← HK.out]), decide_eq_true (p := o.val.2.length = 2) (by show o.d.length = 2; rw [← HL.out])]; rfl
    exact ⟨e, by unfold L4.toldV; rw [e]; rfl⟩
  obtain ⟨q, hq⟩ : ∃ q, q = o.d.getD 0 0 * 256 + o.d.getD 1 0 := ⟨_, rfl⟩
  rw [← hq] at QU HT
  have q64 : IntKind.i64.wrap (q : Int) = (q : Int) := by have := HB.out; rw [IntKind.wrap_i64]; omega
  have HQ : Hid _ := QU
  clear QU hq HV HU
  go_enter Tryd.func52, Tryd.ntmps52
  go_wp2_with fail
  refine Calls.mono HQ.out ?_
  rintro e w1 ⟨rfl, hb1⟩
  have HF : Hid (Below w.heap.size w w1) := bthen bel hb1
  clear hb1 HQ
  go_wp2
  go_ret2
  exact ⟨by rw [HT.out.1, HT.out.2]; rfl, HF.out⟩
theorem mss_drop (os : List OpV) (k : Nat) (o : OpV) (h : os[k]? = some o) : L4.mss (vals (os.drop k)) = if L4.tells o.val then (L4.toldV o.val, true) else L4.mss (vals (os.drop (k + 1))) := by
  obtain ⟨hk, he⟩ := List.getElem?_eq_some_iff.1 h
  rw [List.drop_eq_getElem_cons hk, he]
  rfl
set_option maxHeartbeats 1600000 in
set_option maxRecDepth 100000 in
theorem mss_any (t : T9) (la : Option Addr) (ln lc : Nat) (os : List OpV) (da : Option Addr) (n c : Nat) (w : World) (hl : os.length = ln) (ho : OptsAt w la os) (hln : ln ≤ 1099511627776) :
    Calls Tryd.prog 25 #[.agg (tC t la ln lc da n c)] w fun e w' => e = .returned (.tuple #[.int .i64 (((L4.mss (vals os)).1 : Nat) : Int), .bool (L4.mss (vals os)).2]) ∧ Below w.heap.size w w' := by
  have bel : Below w.heap.size w (w.alloc (.cells (tC t la ln lc da n c) 45)) := (Below.refl _ _).alloc (Nat.le_refl _) _
  have hr := tAt_new w t la ln lc da n c
  obtain ⟨M, hM⟩ : ∃ M, M = tC t la ln lc da n c := ⟨_, rfl⟩
  rw [← hM] at bel hr ⊢
  obtain ⟨W, hW⟩ : ∃ W, W = w.alloc (.cells M 45) := ⟨_, rfl⟩
  rw [← hW] at bel hr
  have HW : Hid (w.alloc (.cells M 45) = W) := hW.symm
  obtain ⟨O, hO⟩ : ∃ O, O = w.heap.size := ⟨_, rfl⟩
  rw [← hO] at hr
  have HO : Hid (w.heap.size = O) := hO.symm
  have HR : Hid (TAt W O t la ln lc da n c) := hr
  have HN : Hid (os.length = ln) := hl
  have HOA : Hid (OptsAt w la os) := ho
  have c7 := HR.out.c7
  clear hr hM hW hO hl ho
  go_enter Tryd.func25, Tryd.ntmps25
  go_upto_region 1 with fail
  rw [HO.out, HW.out]
  go_wp2
  clear c7
  go_loopw [11] (fun ix wr => ∃ k : Nat, ix = .int .i64 k ∧ k ≤ ln ∧ Hid (L4.mss (vals os) = L4.mss (vals (os.drop k))) ∧ Below w.heap.size w wr) (fun ix _ => ln - (intOf ix).toNat)
  case atStart => exact ⟨0, rfl, Nat.zero_le _, rfl, bel⟩
  case round =>
    obtain ⟨k, rfl, hk, HM, hbel⟩ := hrel
    by_cases hlt : k < ln
    · obtain ⟨o, hok⟩ : ∃ o, os[k]? = some o := ⟨_, List.getElem?_eq_getElem (by rw [HN.out]; exact hlt)⟩
      obtain ⟨b, off, hla, hblt, hoo, d0, d1⟩ := (HOA.out.old hbel).at k o hok
      subst hla
      have k0 : (0 : Int) ≤ (k : Int) := by omega
      have k1 : (k : Int) < (ln : Int) := by omega
      have k2 : ((k : Int)).toNat = k := by omega
      have wk : IntKind.i64.wrap ((k : Int) + 1) = (k : Int) + 1 := by rw [IntKind.wrap_i64]; omega
      have HT : Hid _ := mss_drop os k o hok
      rw [← HM.out] at HT
      have hb2 : Below w.heap.size w (wr.alloc (.cells #[.int .i64 o.k, .slice o.a o.d.length o.c] 68)) := hbel.alloc hbel.size _
      have QT : Hid _ := told_any o (wr.alloc (.cells #[.int .i64 o.k, .slice o.a o.d.length o.c] 68)) (hoo.old ((Below.refl _ _).alloc (Nat.le_refl _) _))
      obtain ⟨z, hz⟩ : ∃ z, z = L4.tells o.val := ⟨_, rfl⟩
      obtain ⟨q, hq⟩ : ∃ q, q = L4.toldV o.val := ⟨_, rfl⟩
      rw [← hz, ← hq] at QT HT
      clear hz hq hok hoo hblt
      go_wp2_with fail
      refine Calls.mono QT.out ?_
      rintro e w1 ⟨rfl, hb3⟩
      have hb4 := bthen hb2 hb3
      clear QT hb3 hb2 d0 d1
      cases z with
      | true =>
        have HR : Hid (L4.mss (vals os) = (q, true)) := HT.out
        go_wp2
        go_ret2
        exact ⟨by rw [HR.out]; rfl, hb4⟩
      | false =>
        have HR : Hid (L4.mss (vals os) = L4.mss (vals (os.drop (k + 1)))) := HT.out
        go_wp2
        go_roundw
        case rel => exact ⟨k + 1, by go_num, by omega, HR, hb4⟩
        case measure => simp [intOf]; omega
    · have hkn : k = ln := by omega
      have HR : Hid (L4.mss (vals os) = (0, false)) := by
        have := HM.out
        rw [List.drop_of_length_le (by rw [HN.out]; omega)] at this
        exact this
      clear hlt
      go_wp2
      go_ret2
      exact ⟨by rw [HR.out]; rfl, hbel⟩
set_option maxHeartbeats 800000 in
set_option maxRecDepth 100000 in
theorem bclone_any (a : Option Addr) (n c : Nat) (l : List Nat) (w : World) (hn : l.length = n) (hs : Seg .u8 w a (toI l)) (hm : n ≤ 1048576) :
    Calls Tryd.prog 53 #[.slice a n c] w fun e w' => ∃ v, e = .returned v ∧ OwnB w' w.heap.size v n l ∧ Below w.heap.size w w' := by
  obtain ⟨i0, hi, hz0, hz1, hz2⟩ := info_parts Tryd.infoByte
  cases a with
  | none =>
    have hl : l = [] := by
      rcases hs with h | ⟨b, off, e, _⟩
      · simpa [toI] using h
      · cases e
    subst hl
    have hn0 : n = 0 := by simpa using hn.symm
    subst hn0
    have e0 : ∀ W : World, (binOp .eql 25 (.slice none 0 c) (.slice none 0 0)).run Tryd.prog W = .ok (.bool true) W := fun W => Lib.run_eql_slice_nil W 25 5 none 0 c 0 0 Tryd.underlying25
    go_enter Tryd.func53, Tryd.ntmps53
    go_wp2
    go_ret
    exact ⟨_, rfl, World.ownsRow_nil _ _ _ _, Below.refl _ _⟩
  | some x =>
    have e0 : ∀ W : World, (binOp .eql 25 (.slice (some x) n c) (.slice none 0 0)).run Tryd.prog W = .ok (.bool false) W := fun W => Lib.run_eql_slice_nil W 25 5 (some x) n c 0 0 Tryd.underlying25
    have hb : Below w.heap.size w (w.alloc (.cells #[] 5)) := (Below.refl _ _).alloc (Nat.le_refl _) _
    have ho : (w.alloc (.cells #[] 5)).ownsRow w.heap.size 5 1 (.slice (some ⟨w.heap.size, 0, none⟩) 0 0) 0 [] := to_own (heap_alloc_new _ _) (Nat.le_refl _) rfl (by decide)
    have HS : Hid _ := hs.old hb
    have HN : Hid (l.length = n) := hn
    have HB : Hid _ := hb
    have HOW : Hid _ := ho
    clear hb ho hs hn
    go_enter Tryd.func53, Tryd.ntmps53
    go_wp2_with (first | (at_builtin; refine append_split_seg rfl (.tmp 5) (.tmp 6) 25 rfl w.heap.size 5 i0 _ 1 Tryd.underlying25 hi hz0 hz1 hz2 rfl (.slice (some ⟨w.heap.size, 0, none⟩) 0 0) 0 [] rfl HOW.out .u8 (some x) n c (toI l) rfl (by rw [toI_len]; exact HN.out) HS.out (by unfold maxLen; omega) (by omega) (by simp) ?_))
    intro v' w' ho' _ hg
    have HF : Hid (Below w.heap.size w w') := HB.out.grown hg HB.out.size (by intro k hk; simp [Value.ownBlock] at hk; omega)
    have HO : Hid (OwnB w' w.heap.size v' n l) := by
      first | exact ho' | simpa using ho'
    clear ho' hg
    go_wp2
    go_ret
    exact ⟨_, rfl, HO.out, HF.out⟩
end Go.Proofs.YtfoeepbndfnifaaDoor
