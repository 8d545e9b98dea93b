/-
  Layer 20, captures: WriteCapture, the program's and the document's.
-/
import Derived.Test.YtpdfepnifjolkaaDC5
import Derived.Lib.AppendStr
namespace Go.Proofs.Ytpdfepnifjolkaa
open Go.RowKit Go.ChangeShapes Go.WideShapes

/-- a list of frames that is handed in -/
def CapsIn (w : World) (la : Option Addr) (L : List CE) : Prop := ListG 4 ceL (fun c => Seg .u8 w c.a (toI c.d) ∧ ∀ x ∈ c.d, x < 256) w la L
theorem CapsIn.old {w w' : World} {la : Option Addr} {L : List CE} (h : CapsIn w la L) (k : Below w.heap.size w w') : CapsIn w' la L := by
  have h1 := ListG.old h k
  rcases h1 with h1 | ⟨b, off, ha, hlt, hc⟩
  · exact .inl h1
  · exact .inr ⟨b, off, ha, hlt, fun i o ho => ⟨⟨(hc i o ho).1.1.old k, (hc i o ho).1.2⟩, (hc i o ho).2⟩⟩
/-- a row of bytes of one's own, or the mark as it was laid -/
def RowW (w : World) (base : Nat) (v : Value) (l : List Nat) : Prop := OwnB w base v l.length l ∨ (l = mg ∧ ∃ g, v = .slice (some ⟨g, 0, none⟩) 8 8 ∧ base ≤ g ∧ w.heap[g]? = some (.cells #[.int .u8 87, .int .u8 69, .int .u8 73, .int .u8 82, .int .u8 67, .int .u8 65, .int .u8 80, .int .u8 49] 5 (8, 9)))
theorem mgA : (#[.int .u8 87, .int .u8 69, .int .u8 73, .int .u8 82, .int .u8 67, .int .u8 65, .int .u8 80, .int .u8 49] : Array Value) = ((toI mg).map (Value.int .u8)).toArray := rfl
theorem RowW.lt {w : World} {base : Nat} {v : Value} {l : List Nat} (h : RowW w base v l) : ∀ g, v.ownBlock = some g → base ≤ g ∧ g < w.heap.size := by
  intro g hg
  rcases h with h | ⟨_, q, rfl, hb, hh⟩
  · exact ⟨(h.kind g hg).1, (h.kind g hg).2.1⟩
  · simp [Value.ownBlock] at hg; subst hg; exact ⟨hb, (Array.getElem?_eq_some_iff.1 hh).1⟩
theorem RowW.ch {S : Nat → Prop} {w b : World} {base : Nat} {v : Value} {l : List Nat} (h : RowW w base v l) (k : Ch S w b) (hS : ∀ g, v.ownBlock = some g → ¬ S g) : RowW b base v l := by
  rcases h with h | ⟨e, q, rfl, hb, hh⟩
  · exact .inl (k.owns h hS)
  · exact .inr ⟨e, q, rfl, hb, (k.block q (Array.getElem?_eq_some_iff.1 hh).1 (hS q rfl)).trans hh⟩
theorem RowW.below {w b : World} {base : Nat} {v : Value} {l : List Nat} (h : RowW w base v l) (k : Below w.heap.size w b) : RowW b base v l := h.ch (Ch.ofBelow (S := fun _ => False) k) (fun _ _ => id)
theorem RowW.form {w : World} {base : Nat} {v : Value} {l : List Nat} (h : RowW w base v l) : ∃ a c, v = .slice a l.length c ∧ l.length ≤ c := by
  rcases h with h | ⟨rfl, q, rfl, hb, hh⟩
  · rcases h.2 with ⟨rfl, h0⟩ | ⟨g, cap, cur, rfl, _, _, hc, _⟩
    · exact ⟨none, 0, by rw [h0], by omega⟩
    · exact ⟨_, _, rfl, hc⟩
  · exact ⟨_, _, rfl, by decide⟩
theorem RowW.seg {w : World} {base : Nat} {a : Option Addr} {n c : Nat} {l : List Nat} (h : RowW w base (.slice a n c) l) : Seg .u8 w a (toI l) := by
  rcases h with h | ⟨rfl, q, e, hb, hh⟩
  · obtain ⟨a', c', e, hs⟩ := owns_seg h
    simp only [Value.slice.injEq] at e
    rw [e.1]; exact hs.1
  · simp only [Value.slice.injEq] at e
    rw [e.1]
    refine .inr ⟨_, _, rfl, fun i hi => ?_⟩
    rw [Nat.zero_add]
    unfold World.cell?
    simp only [hh]
    rw [mgA]
    simp [List.getD, hi]
/-- append of the eight bytes of a head onto such a row -/
theorem append_row {ops : Array Oper} {rest : List Oper} {o : Oper} {a : Act} {w : World} {Q : Exit → Act → World → Prop} (hgd : o.guard = none) (s x : Operand) (ho : o.op = .call { callee := .builtin .append, args := #[s, x], argTypes := #[22, 22] })
    (base : Nat) (v : Value) (l : List Nat) (hs : a.eval s = v) (hr : RowW w base v l) (g : Nat) (h8 : List Nat) (hx : a.eval x = .slice (some ⟨g, 0, none⟩) 8 8) (hl : h8.length = 8) (hseg : Seg .u8 w (some ⟨g, 0, none⟩) (toI h8)) (hb : l.length ≤ 140000000000000) (hbase : base ≤ w.heap.size)
    (h : ∀ v' w', OwnB w' base v' (l ++ h8).length (l ++ h8) → Ch (fun q => v.ownBlock = some q) w w' → wpList Try.prog ops Q rest (a.put o.dst v') w') : wpList Try.prog ops Q (o :: rest) a w := by
  obtain ⟨ti, z0, hi, hz0, hz1, hz2, hz3⟩ : ∃ i z, Try.prog.info? 5 = some i ∧ i.zero = some z ∧ i.size = 1 ∧ i.bytes = 1 ∧ z.cells.size = 1 := by
    have h := Try.infoByte
    cases hi : Try.prog.info? 5 with
    | none => rw [hi] at h; cases h
    | some i => rw [hi] at h; simp at h; exact ⟨i, _, rfl, h.1, h.2.1, h.2.2, rfl⟩
  rcases hr with hr | ⟨rfl, q, rfl, hq, hh⟩
  · refine append_split_seg hgd s x 22 ho base 5 ti z0 1 Try.underlying22 hi hz0 hz1 hz2 hz3 v l.length _ hs hr .u8 (some ⟨g, 0, none⟩) 8 8 (toI h8) hx (by rw [toI_len, hl]) hseg (by unfold maxLen; omega) (by omega) hbase ?_
    intro v' w' h1 _ h3
    refine h v' w' ?_ (Ch.ofGrown h3)
    unfold OwnB
    rw [List.length_append, hl, toI, List.map_append, List.map_append]
    exact h1
  · refine wpList_plain hgd fun K hK => ?_
    obtain ⟨v', w', hrun, r1, r2⟩ := run_append_arg_grows (P := Try.prog) w 22 o.type 5 ti z0 1 1 Try.underlying22 hi hz0 hz1 hz2 hz3 (by decide) ⟨q, 0, none⟩ 8 8 ((toI mg).map (Value.int .u8)) rfl (by
      intro j u hj
      rw [Addr.add_lit, Nat.zero_add]
      unfold World.cell?
      simp only [hh]
      rw [mgA]
      simpa using hj) ⟨g, 0, none⟩ 8 8 ((toI h8).map (Value.int .u8)) (by rw [List.length_map, toI_len, hl]) (by
      intro j u hj
      rcases hseg with h0 | ⟨b, off, e, hc⟩
      · have := congrArg List.length h0; rw [toI_len, hl] at this; simp at this
      · simp only [Option.some.injEq, Addr.mk.injEq, and_true] at e
        obtain ⟨rfl, rfl⟩ := e
        have hjl : j < (toI h8).length := by have := (List.getElem?_eq_some_iff.1 hj).1; simpa using this
        have := hc j hjl
        rw [Addr.add_lit, this]
        simp [List.getD, List.getElem?_eq_getElem hjl] at hj ⊢
        exact hj) (by decide) (by unfold maxLen; decide) (by decide)
    unfold Oper.wp
    simp [execOp, ho, resolve, invoke, builtin, hs, hx, hrun, Result.andThen]
    refine hK _ _ (h v' w' ?_ ((Ch.ofGrown r2).mono (fun _ _ e => by cases e)))
    unfold OwnB
    rw [List.length_append, hl, toI, List.map_append, List.map_append]
    exact owns_mono r1 hbase
/-- append of any bytes onto a row of one's own -/
theorem append_own {ops : Array Oper} {rest : List Oper} {o : Oper} {a : Act} {w : World} {Q : Exit → Act → World → Prop} (hgd : o.guard = none) (s x : Operand) (ho : o.op = .call { callee := .builtin .append, args := #[s, x], argTypes := #[22, 22] })
    (base : Nat) (v : Value) (l : List Nat) (hs : a.eval s = v) (hr : OwnB w base v l.length l) (ad : Option Addr) (n c : Nat) (d : List Nat) (hx : a.eval x = .slice ad n c) (hl : d.length = n) (hseg : Seg .u8 w ad (toI d)) (hb : l.length + n ≤ 140000000000000) (hbase : base ≤ w.heap.size)
    (h : ∀ v' w', OwnB w' base v' (l ++ d).length (l ++ d) → Ch (fun q => v.ownBlock = some q) w w' → (∀ q, v'.ownBlock = some q → v.ownBlock = some q ∨ w.heap.size ≤ q) → wpList Try.prog ops Q rest (a.put o.dst v') w') : wpList Try.prog ops Q (o :: rest) a w := by
  obtain ⟨ti, z0, hi, hz0, hz1, hz2, hz3⟩ : ∃ i z, Try.prog.info? 5 = some i ∧ i.zero = some z ∧ i.size = 1 ∧ i.bytes = 1 ∧ z.cells.size = 1 := by
    have h := Try.infoByte
    cases hi : Try.prog.info? 5 with
    | none => rw [hi] at h; cases h
    | some i => rw [hi] at h; simp at h; exact ⟨i, _, rfl, h.1, h.2.1, h.2.2, rfl⟩
  refine append_split_seg hgd s x 22 ho base 5 ti z0 1 Try.underlying22 hi hz0 hz1 hz2 hz3 v l.length _ hs hr .u8 ad n c (toI d) hx (by rw [toI_len, hl]) hseg (by unfold maxLen; omega) (by omega) hbase ?_
  intro v' w' h1 h2 h3
  refine h v' w' ?_ (Ch.ofGrown h3) h2
  unfold OwnB
  rw [List.length_append, hl, toI, List.map_append, List.map_append]
  exact h1
/-- append of the mark onto nothing -/
theorem append_mark {ops : Array Oper} {rest : List Oper} {o : Oper} {a : Act} {w : World} {Q : Exit → Act → World → Prop} (hgd : o.guard = none) (s x : Operand) (ho : o.op = .call { callee := .builtin .append, args := #[s, x], argTypes := #[22, 9] })
    (hs : a.eval s = .slice none 0 0) (hx : a.eval x = .string { data := #[87, 69, 73, 82, 67, 65, 80, 49] })
    (h : ∀ v' w', OwnB w' w.heap.size v' mg.length mg → Below w.heap.size w w' → wpList Try.prog ops Q rest (a.put o.dst v') w') : wpList Try.prog ops Q (o :: rest) a w := by
  obtain ⟨ti, hi, hz0, hz1, hz2⟩ : ∃ i, Try.prog.info? 5 = some i ∧ i.zero = some (.int .u8 0) ∧ i.size = 1 ∧ i.bytes = 1 := by
    have h := Try.infoByte
    cases hi : Try.prog.info? 5 with
    | none => rw [hi] at h; cases h
    | some i => rw [hi] at h; simp at h; exact ⟨i, rfl, h.1, h.2.1, h.2.2⟩
  refine Lib.wpList_append_own_string w hgd s x 22 9 ho w.heap.size 5 ti Try.underlying22 Try.underlying9 hi hz0 hz1 hz2 (.slice none 0 0) 0 [] hs (World.ownsRow_nil _ _ _ _) _ hx (by decide) (by decide) (Nat.le_refl _) ?_
  intro v' w' h1 h2 _
  exact h v' w' h1 ⟨h2.os, h2.tape, h2.output, h2.size, fun q hq => h2.block q hq (by simp [Value.ownBlock])⟩
theorem drop_cons {L : List CE} {k : Nat} {c : CE} (h : L[k]? = some c) : (L.map cvt).drop k = cvt c :: (L.map cvt).drop (k + 1) := by
  have hk := (List.getElem?_eq_some_iff.1 h)
  rw [List.drop_eq_getElem_cons (by rw [List.length_map]; exact hk.1), List.getElem_map, hk.2]
set_option maxHeartbeats 1600000 in
set_option maxRecDepth 100000 in
theorem write_any (w : World) (la : Option Addr) (n lc : Nat) (L : List CE) (hs : CapsIn w la L) (hn : L.length = n) (hn2 : n ≤ 2000000) : Calls Try.prog 9 #[.slice la n lc] w fun e w' => Below w.heap.size w w' ∧ ∃ v, RowW w' w.heap.size v (wrA (L.map cvt)).1 ∧ e = .returned (.tuple #[v, .int .i64 (wrA (L.map cvt)).2]) := by
  have HS : Hid (CapsIn w la L ∧ L.length = n) := ⟨hs, hn⟩
  clear hs hn
  have kc := Lib.run_convert_bytes_const (P := Try.prog) w 22 5 #[.int .u8 87, .int .u8 69, .int .u8 73, .int .u8 82, .int .u8 67, .int .u8 65, .int .u8 80, .int .u8 49] 8 8 Try.underlying22 Try.underlying5
  go_enter Try.func9, Try.ntmps9
  go_upto_region 2 with fail
  obtain ⟨w0, hw0⟩ : ∃ W, W = w.alloc (.cells #[.int .u8 87, .int .u8 69, .int .u8 73, .int .u8 82, .int .u8 67, .int .u8 65, .int .u8 80, .int .u8 49] 5 (8, 9)) := ⟨_, rfl⟩
  have H0 : Hid (RowW w0 w.heap.size (.slice (some ⟨w.heap.size, 0, none⟩) 8 8) mg ∧ Below w.heap.size w w0) := by
    rw [hw0]
    exact ⟨.inr ⟨rfl, _, rfl, Nat.le_refl _, heap_alloc_new _ _⟩, (Below.refl _ _).alloc (Nat.le_refl _) _⟩
  rw [← hw0]
  clear hw0 kc
  go_wp2_with fail
  go_loopw [4, 11] (fun bv ix wr => ∃ (k : Nat) (bs : List Nat), ix = .int .i64 (k : Nat) ∧ k ≤ n ∧ Hid (RowW wr w.heap.size bv bs ∧ Below w.heap.size w wr ∧ apw bs (wrF ((L.map cvt).drop k)) = wrA (L.map cvt) ∧ bs.length ≤ 8 + k * 65543)) (fun _ ix _ => n - (intOf ix).toNat)
  case atStart => exact ⟨0, mg, rfl, Nat.zero_le _, H0.out.1, H0.out.2, apw_mg _, by decide⟩
  case round =>
    obtain ⟨k, bs, rfl, hk, HI⟩ := hrel
    by_cases hin : k < n
    · have p1 : decide ((k : Int) < (n : Int)) = true := decide_eq_true (by omega)
      have p2 : decide (k < n) = true := decide_eq_true hin
      have i0 : (0 : Int) ≤ (k : Int) := by omega
      have i1 : (k : Int) < (n : Int) := by omega
      have i2 : ((k : Int)).toNat = k := by omega
      have wk1 : IntKind.i64.wrap ((k : Int) + 1) = (k : Int) + 1 := i64_s _ (by omega) (by omega)
      obtain ⟨c, hc⟩ : ∃ c, L[k]? = some c := ⟨_, List.getElem?_eq_getElem (by rw [HS.out.2]; exact hin)⟩
      obtain ⟨⟨hsg, h256⟩, b, off, rfl, hlt, hcell⟩ := ListG.at HS.out.1 k c hc
      have HRA : Hid (wr.rangeAt b (off + k * 4) (ceL c)) := fun j u hj => by
        have hj4 : j < 4 := by have := (List.getElem?_eq_some_iff.1 hj).1; rwa [ceL_len] at this
        rw [HI.out.2.1.cell (p := ⟨b, off + k * 4 + j, none⟩) hlt, hcell j hj4]; exact hj
      have HSG : Hid (Seg .u8 w c.a (toI c.d) ∧ ∀ x ∈ c.d, x < 256) := ⟨hsg, h256⟩
      obtain ⟨tk, htk⟩ : ∃ x, c.tk = x := ⟨_, rfl⟩
      obtain ⟨pt, hpt⟩ : ∃ x, c.pt = x := ⟨_, rfl⟩
      obtain ⟨m, hm⟩ : ∃ m, c.d.length = m := ⟨_, rfl⟩
      have HEL : Hid (L[k]? = some c ∧ c.tk = tk ∧ c.pt = pt ∧ c.d.length = m) := ⟨hc, htk, hpt, hm⟩
      obtain ⟨BV, hBV⟩ : ∃ v, v = u4 := ⟨_, rfl⟩
      rw [← hBV] at HI ⊢
      clear hBV hsg h256 hcell hlt hc htk hpt hm
      go_upto_region 5 with (first | (refine wpList_mid_cap (.tmp 13) rfl b (off + k * 4) c rfl HRA.out rfl ?_) | (refine wpList_nil_cap rfl rfl ?_; intro O Z hO hA bZ) | (refine wpList_store_cap (.tmp 6) (.tmp 14) rfl rfl O cz c rfl rfl hA rfl ?_; intro wk h5 k5))
      have HK : Hid (CapAt wk O c ∧ Below w.heap.size w wk ∧ RowW wk w.heap.size BV bs ∧ ∀ q, BV.ownBlock = some q → ¬ q = O) := by
        have h1 := HI.out.2.1.trans (bZ.mono HI.out.2.1.size)
        have hOs := hO.out.1
        have h2 : Below wr.heap.size wr wk := bZ.trans (k5.below (fun q hq => by omega) bZ.size)
        exact ⟨h5, HI.out.2.1.trans (h2.mono HI.out.2.1.size), HI.out.1.below h2, fun q hq e => by have h3 := (HI.out.1.lt q hq).2; omega⟩
      clear h5 k5 hA bZ hO
      have c0 : wk.cell? ⟨O, 0, none⟩ = some (.int .i64 tk) := by rw [HK.out.1.cell 0, ← HEL.out.2.1]; rfl
      have c1 : wk.cell? ⟨O, 1, none⟩ = some (.int .i64 pt) := by rw [HK.out.1.cell 1, ← HEL.out.2.2.1]; rfl
      have c2 : wk.cell? ⟨O, 2, none⟩ = some (.bool c.ou) := by rw [HK.out.1.cell 2]; rfl
      have c3 : wk.cell? ⟨O, 3, none⟩ = some (.slice c.a m c.cap) := by rw [HK.out.1.cell 3, ← HEL.out.2.2.2]; rfl
      by_cases n0 : tk < (0 : Int)
      · have f0 : decide (tk < (0 : Int)) = true := decide_eq_true n0
        have HEC : Hid (wrE (cvt c) = 1) := wrE_1 (by have h1 := HEL.out.2; show c.tk < 0 ∨ 4294967295 < c.tk ∨ c.pt < 0 ∨ 255 < c.pt; rw [h1.1, h1.2.1]; omega)
        clear n0
        go_wp2_with fail
        go_ret2
        have h1 := HI.out.2.2.1
        rw [drop_cons HEL.out.1, wr_bad _ _ (by rw [HEC.out]; decide), HEC.out] at h1
        have h2 : wrA (L.map cvt) = ([], 1) := h1.symm
        rw [h2]
        exact ⟨HK.out.2.1, _, .inl (World.ownsRow_nil _ _ _ _), rfl⟩
      by_cases n1 : (4294967295 : Int) < tk
      · have f0 : decide (tk < (0 : Int)) = false := decide_eq_false n0
        have f1 : decide ((4294967295 : Int) < tk) = true := decide_eq_true n1
        have HEC : Hid (wrE (cvt c) = 1) := wrE_1 (by have h1 := HEL.out.2; show c.tk < 0 ∨ 4294967295 < c.tk ∨ c.pt < 0 ∨ 255 < c.pt; rw [h1.1, h1.2.1]; omega)
        clear n0 n1
        go_wp2_with fail
        go_ret2
        have h1 := HI.out.2.2.1
        rw [drop_cons HEL.out.1, wr_bad _ _ (by rw [HEC.out]; decide), HEC.out] at h1
        have h2 : wrA (L.map cvt) = ([], 1) := h1.symm
        rw [h2]
        exact ⟨HK.out.2.1, _, .inl (World.ownsRow_nil _ _ _ _), rfl⟩
      by_cases n2 : pt < (0 : Int)
      · have f0 : decide (tk < (0 : Int)) = false := decide_eq_false n0
        have f1 : decide ((4294967295 : Int) < tk) = false := decide_eq_false n1
        have f2 : decide (pt < (0 : Int)) = true := decide_eq_true n2
        have HEC : Hid (wrE (cvt c) = 1) := wrE_1 (by have h1 := HEL.out.2; show c.tk < 0 ∨ 4294967295 < c.tk ∨ c.pt < 0 ∨ 255 < c.pt; rw [h1.1, h1.2.1]; omega)
        clear n0 n1 n2
        go_wp2_with fail
        go_ret2
        have h1 := HI.out.2.2.1
        rw [drop_cons HEL.out.1, wr_bad _ _ (by rw [HEC.out]; decide), HEC.out] at h1
        have h2 : wrA (L.map cvt) = ([], 1) := h1.symm
        rw [h2]
        exact ⟨HK.out.2.1, _, .inl (World.ownsRow_nil _ _ _ _), rfl⟩
      by_cases n3 : (255 : Int) < pt
      · have f0 : decide (tk < (0 : Int)) = false := decide_eq_false n0
        have f1 : decide ((4294967295 : Int) < tk) = false := decide_eq_false n1
        have f2 : decide (pt < (0 : Int)) = false := decide_eq_false n2
        have f3 : decide ((255 : Int) < pt) = true := decide_eq_true n3
        have HEC : Hid (wrE (cvt c) = 1) := wrE_1 (by have h1 := HEL.out.2; show c.tk < 0 ∨ 4294967295 < c.tk ∨ c.pt < 0 ∨ 255 < c.pt; rw [h1.1, h1.2.1]; omega)
        clear n0 n1 n2 n3
        go_wp2_with fail
        go_ret2
        have h1 := HI.out.2.2.1
        rw [drop_cons HEL.out.1, wr_bad _ _ (by rw [HEC.out]; decide), HEC.out] at h1
        have h2 : wrA (L.map cvt) = ([], 1) := h1.symm
        rw [h2]
        exact ⟨HK.out.2.1, _, .inl (World.ownsRow_nil _ _ _ _), rfl⟩
      have f0 : decide (tk < (0 : Int)) = false := decide_eq_false n0
      have f1 : decide ((4294967295 : Int) < tk) = false := decide_eq_false n1
      have f2 : decide (pt < (0 : Int)) = false := decide_eq_false n2
      have f3 : decide ((255 : Int) < pt) = false := decide_eq_false n3
      have HNO : Hid (¬ (c.tk < 0 ∨ 4294967295 < c.tk ∨ c.pt < 0 ∨ 255 < c.pt)) := by show ¬ _; rw [HEL.out.2.1, HEL.out.2.2.1]; omega
      clear n0 n1 n2 n3
      by_cases nl : 65535 < m
      · have f5 : decide ((65535 : Int) < (m : Int)) = true := decide_eq_true (by omega)
        have f6 : decide (65535 < m) = true := decide_eq_true nl
        have HEC : Hid (wrE (cvt c) = 2) := wrE_2 HNO.out (by show 65535 < c.d.length; rw [HEL.out.2.2.2]; exact nl)
        clear nl
        go_wp2_with fail
        go_ret2
        have h1 := HI.out.2.2.1
        rw [drop_cons HEL.out.1, wr_bad _ _ (by rw [HEC.out]; decide), HEC.out] at h1
        have h2 : wrA (L.map cvt) = ([], 2) := h1.symm
        rw [h2]
        exact ⟨HK.out.2.1, _, .inl (World.ownsRow_nil _ _ _ _), rfl⟩
      have f5 : decide ((65535 : Int) < (m : Int)) = false := decide_eq_false (by omega)
      have f6 : decide (65535 < m) = false := decide_eq_false nl
      have HNL : Hid (¬ 65535 < c.d.length) := by show ¬ _; rw [HEL.out.2.2.2]; exact nl
      have HEC : Hid (wrE (cvt c) = 0) := wrE_0 HNO.out HNL.out
      go_upto_region 9 with fail
      clear f0 f1 f2 f3 f5 f6
      have QH : Hid _ := head_any wk c HNO.out HNL.out
      go_wp2_with (first | (refine wpList_load_cap (.tmp 6) rfl O c rfl HK.out.1 rfl ?_))
      refine Calls.mono QH.out ?_
      rintro e wh ⟨bh, g, rfl, hg, hsg⟩
      clear QH
      have HHD : Hid (Below wk.heap.size wk wh ∧ wk.heap.size ≤ g ∧ Seg .u8 wh (some ⟨g, 0, none⟩) (toI (hdC (cvt c)))) := ⟨bh, hg, hsg⟩
      clear bh hg hsg
      go_upto_region 10 with (first | (at_builtin; refine append_row rfl (.tmp 37) (.tmp 39) rfl w.heap.size BV bs rfl (HK.out.2.2.1.below HHD.out.1) g (hdC (cvt c)) rfl rfl HHD.out.2.2 (by have h1 := HI.out.2.2.2; omega) (Nat.le_trans HK.out.2.1.size HHD.out.1.size) ?_))
      intro vh w1 ho1 hk1
      try rw [← List.length_append] at ho1
      have H1 : Hid (OwnB w1 w.heap.size vh (bs ++ hdC (cvt c)).length (bs ++ hdC (cvt c)) ∧ Below w.heap.size w w1 ∧ CapAt w1 O c ∧ Seg .u8 w1 c.a (toI c.d)) := by
        have hx := HK.out.2.1.trans (HHD.out.1.mono HK.out.2.1.size)
        have hb : Below w.heap.size w w1 := hx.trans (hk1.below (fun q hq => (HK.out.2.2.1.lt q hq).1) hx.size)
        exact ⟨ho1, hb, (HK.out.1.below HHD.out.1).ch hk1 (fun e => HK.out.2.2.2 _ e rfl), HSG.out.1.old hb⟩
      have ho2_ := ho1
      unfold OwnB at ho2_
      obtain ⟨hva, hvc, hvh⟩ := owns_shape ho2_
      clear ho1 hk1 c0 c1 c2 c3 ho2_
      obtain ⟨N, hN⟩ : ∃ N, N = (bs ++ hdC (cvt c)).length := ⟨_, rfl⟩
      have hNb : N + m ≤ 140000000000000 := by rw [hN, List.length_append, hdC_len]; have h1 := HI.out.2.2.2; omega
      rw [← hN] at hvh
      have HN : Hid (N = (bs ++ hdC (cvt c)).length) := hN
      subst hvh
      clear hN
      have c3 : w1.cell? ⟨O, 3, none⟩ = some (.slice c.a m c.cap) := by rw [H1.out.2.2.1.cell 3, ← HEL.out.2.2.2]; rfl
      go_wp2_with (first | (at_builtin; refine append_own rfl (.tmp 41) (.tmp 43) rfl w.heap.size (.slice hva N hvc) (bs ++ hdC (cvt c)) rfl H1.out.1 c.a m c.cap c.d rfl HEL.out.2.2.2 H1.out.2.2.2 (by rw [← HN.out]; exact hNb) H1.out.2.1.size ?_))
      intro vd w2 ho2 hk2 _
      replace ho2 : OwnB w2 w.heap.size vd (bs ++ hdC (cvt c) ++ c.d).length (bs ++ hdC (cvt c) ++ c.d) := by simpa using ho2
      have H2 : Hid (OwnB w2 w.heap.size vd (bs ++ hdC (cvt c) ++ c.d).length (bs ++ hdC (cvt c) ++ c.d) ∧ Below w.heap.size w w2) := ⟨ho2, H1.out.2.1.trans (hk2.below (fun q hq => (H1.out.1.kind q hq).1) H1.out.2.1.size)⟩
      clear ho2 hk2 c3
      go_wp2
      go_roundw
      case rel =>
        refine ⟨k + 1, bs ++ hdC (cvt c) ++ c.d, by go_num, by omega, .inl H2.out.1, H2.out.2, ?_, ?_⟩
        · have h1 := HI.out.2.2.1
          rw [drop_cons HEL.out.1, apw_step _ _ _ HEC.out] at h1
          exact h1
        · have h1 := HI.out.2.2.2
          have h2 := HNL.out
          rw [List.length_append, List.length_append, hdC_len]
          omega
      case measure => simp [intOf]; omega

    · have p1 : decide ((k : Int) < (n : Int)) = false := decide_eq_false (by omega)
      have p2 : decide (k < n) = false := decide_eq_false hin
      have HF : Hid (wrA (L.map cvt) = (bs, 0)) := by
        have h1 := HI.out.2.2.1
        rw [List.drop_eq_nil_of_le (by rw [List.length_map, HS.out.2]; omega)] at h1
        show wrA _ = _
        rw [← h1]
        simp [apw, wrF]
      clear hin
      go_wp2_with fail
      go_ret2
      rw [HF.out]
      exact ⟨HI.out.2.1, _, HI.out.1, rfl⟩
set_option maxHeartbeats 1600000 in
set_option maxRecDepth 100000 in
theorem rwrite_any (w : World) (la : Option Addr) (n lc : Nat) (L : List CE) (hs : CapsIn w la L) (hn : L.length = n) (hn2 : n ≤ 2000000) : Calls Try.prog 11 #[.slice la n lc] w fun e w' => Below w.heap.size w w' ∧ ∃ v, RowW w' w.heap.size v (wrA (L.map cvt)).1 ∧ e = .returned (.tuple #[v, .int .i64 (wrA (L.map cvt)).2]) := by
  have HS : Hid (CapsIn w la L ∧ L.length = n) := ⟨hs, hn⟩
  clear hs hn
  go_enter Try.func11, Try.ntmps11
  go_wp2_with (first | (at_builtin; refine append_mark rfl (.tmp 8) (.const _) rfl rfl rfl ?_))
  intro bv0 w0 ho0 hb0
  have H0 : Hid (RowW w0 w.heap.size bv0 mg ∧ Below w.heap.size w w0) := ⟨.inl ho0, hb0⟩
  clear ho0 hb0
  go_wp2_with fail
  go_loopw [4, 5] (fun bv ix wr => ∃ (k : Nat) (bs : List Nat), ix = .int .i64 (k : Nat) ∧ k ≤ n ∧ Hid (RowW wr w.heap.size bv bs ∧ Below w.heap.size w wr ∧ apw bs (wrF ((L.map cvt).drop k)) = wrA (L.map cvt) ∧ bs.length ≤ 8 + k * 65543)) (fun _ ix _ => n - (intOf ix).toNat)
  case atStart => exact ⟨0, mg, rfl, Nat.zero_le _, H0.out.1, H0.out.2, apw_mg _, by decide⟩
  case round =>
    obtain ⟨k, bs, rfl, hk, HI⟩ := hrel
    by_cases hin : k < n
    · have p1 : decide ((k : Int) < (n : Int)) = true := decide_eq_true (by omega)
      have p2 : decide (k < n) = true := decide_eq_true hin
      have i0 : (0 : Int) ≤ (k : Int) := by omega
      have i1 : (k : Int) < (n : Int) := by omega
      have i2 : ((k : Int)).toNat = k := by omega
      have wk1 : IntKind.i64.wrap ((k : Int) + 1) = (k : Int) + 1 := i64_s _ (by omega) (by omega)
      obtain ⟨c, hc⟩ : ∃ c, L[k]? = some c := ⟨_, List.getElem?_eq_getElem (by rw [HS.out.2]; exact hin)⟩
      obtain ⟨⟨hsg, h256⟩, b, off, rfl, hlt, hcell⟩ := ListG.at HS.out.1 k c hc
      have HRA : Hid (wr.rangeAt b (off + k * 4) (ceL c)) := fun j u hj => by
        have hj4 : j < 4 := by have := (List.getElem?_eq_some_iff.1 hj).1; rwa [ceL_len] at this
        rw [HI.out.2.1.cell (p := ⟨b, off + k * 4 + j, none⟩) hlt, hcell j hj4]; exact hj
      have HSG : Hid (Seg .u8 w c.a (toI c.d) ∧ ∀ x ∈ c.d, x < 256) := ⟨hsg, h256⟩
      obtain ⟨tk, htk⟩ : ∃ x, c.tk = x := ⟨_, rfl⟩
      obtain ⟨pt, hpt⟩ : ∃ x, c.pt = x := ⟨_, rfl⟩
      obtain ⟨m, hm⟩ : ∃ m, c.d.length = m := ⟨_, rfl⟩
      have HEL : Hid (L[k]? = some c ∧ c.tk = tk ∧ c.pt = pt ∧ c.d.length = m) := ⟨hc, htk, hpt, hm⟩
      obtain ⟨BV, hBV⟩ : ∃ v, v = u4 := ⟨_, rfl⟩
      rw [← hBV] at HI ⊢
      clear hBV hsg h256 hcell hlt hc htk hpt hm
      go_upto_region 7 with (first | (refine wpList_mid_cap (.tmp 18) rfl b (off + k * 4) c rfl HRA.out rfl ?_) | (refine wpList_nil_cap rfl rfl ?_; intro O Z hO hA bZ) | (refine wpList_store_cap (.tmp 6) (.tmp 19) rfl rfl O cz c rfl rfl hA rfl ?_; intro wk h5 k5))
      have HK : Hid (CapAt wk O c ∧ Below w.heap.size w wk ∧ RowW wk w.heap.size BV bs ∧ ∀ q, BV.ownBlock = some q → ¬ q = O) := by
        have h1 := HI.out.2.1.trans (bZ.mono HI.out.2.1.size)
        have hOs := hO.out.1
        have h2 : Below wr.heap.size wr wk := bZ.trans (k5.below (fun q hq => by omega) bZ.size)
        exact ⟨h5, HI.out.2.1.trans (h2.mono HI.out.2.1.size), HI.out.1.below h2, fun q hq e => by have h3 := (HI.out.1.lt q hq).2; omega⟩
      clear h5 k5 hA bZ hO
      have c0 : wk.cell? ⟨O, 0, none⟩ = some (.int .i64 tk) := by rw [HK.out.1.cell 0, ← HEL.out.2.1]; rfl
      have c1 : wk.cell? ⟨O, 1, none⟩ = some (.int .i64 pt) := by rw [HK.out.1.cell 1, ← HEL.out.2.2.1]; rfl
      have c2 : wk.cell? ⟨O, 2, none⟩ = some (.bool c.ou) := by rw [HK.out.1.cell 2]; rfl
      have c3 : wk.cell? ⟨O, 3, none⟩ = some (.slice c.a m c.cap) := by rw [HK.out.1.cell 3, ← HEL.out.2.2.2]; rfl
      by_cases n0 : tk < (0 : Int)
      · have f0 : decide (tk < (0 : Int)) = true := decide_eq_true n0
        have HEC : Hid (wrE (cvt c) = 1) := wrE_1 (by have h1 := HEL.out.2; show c.tk < 0 ∨ 4294967295 < c.tk ∨ c.pt < 0 ∨ 255 < c.pt; rw [h1.1, h1.2.1]; omega)
        clear n0
        go_wp2_with fail
        go_ret2
        have h1 := HI.out.2.2.1
        rw [drop_cons HEL.out.1, wr_bad _ _ (by rw [HEC.out]; decide), HEC.out] at h1
        have h2 : wrA (L.map cvt) = ([], 1) := h1.symm
        rw [h2]
        exact ⟨HK.out.2.1, _, .inl (World.ownsRow_nil _ _ _ _), rfl⟩
      by_cases n1 : (4294967295 : Int) < tk
      · have f0 : decide (tk < (0 : Int)) = false := decide_eq_false n0
        have f1 : decide ((4294967295 : Int) < tk) = true := decide_eq_true n1
        have HEC : Hid (wrE (cvt c) = 1) := wrE_1 (by have h1 := HEL.out.2; show c.tk < 0 ∨ 4294967295 < c.tk ∨ c.pt < 0 ∨ 255 < c.pt; rw [h1.1, h1.2.1]; omega)
        clear n0 n1
        go_wp2_with fail
        go_ret2
        have h1 := HI.out.2.2.1
        rw [drop_cons HEL.out.1, wr_bad _ _ (by rw [HEC.out]; decide), HEC.out] at h1
        have h2 : wrA (L.map cvt) = ([], 1) := h1.symm
        rw [h2]
        exact ⟨HK.out.2.1, _, .inl (World.ownsRow_nil _ _ _ _), rfl⟩
      by_cases n2 : pt < (0 : Int)
      · have f0 : decide (tk < (0 : Int)) = false := decide_eq_false n0
        have f1 : decide ((4294967295 : Int) < tk) = false := decide_eq_false n1
        have f2 : decide (pt < (0 : Int)) = true := decide_eq_true n2
        have HEC : Hid (wrE (cvt c) = 1) := wrE_1 (by have h1 := HEL.out.2; show c.tk < 0 ∨ 4294967295 < c.tk ∨ c.pt < 0 ∨ 255 < c.pt; rw [h1.1, h1.2.1]; omega)
        clear n0 n1 n2
        go_wp2_with fail
        go_ret2
        have h1 := HI.out.2.2.1
        rw [drop_cons HEL.out.1, wr_bad _ _ (by rw [HEC.out]; decide), HEC.out] at h1
        have h2 : wrA (L.map cvt) = ([], 1) := h1.symm
        rw [h2]
        exact ⟨HK.out.2.1, _, .inl (World.ownsRow_nil _ _ _ _), rfl⟩
      by_cases n3 : (255 : Int) < pt
      · have f0 : decide (tk < (0 : Int)) = false := decide_eq_false n0
        have f1 : decide ((4294967295 : Int) < tk) = false := decide_eq_false n1
        have f2 : decide (pt < (0 : Int)) = false := decide_eq_false n2
        have f3 : decide ((255 : Int) < pt) = true := decide_eq_true n3
        have HEC : Hid (wrE (cvt c) = 1) := wrE_1 (by have h1 := HEL.out.2; show c.tk < 0 ∨ 4294967295 < c.tk ∨ c.pt < 0 ∨ 255 < c.pt; rw [h1.1, h1.2.1]; omega)
        clear n0 n1 n2 n3
        go_wp2_with fail
        go_ret2
        have h1 := HI.out.2.2.1
        rw [drop_cons HEL.out.1, wr_bad _ _ (by rw [HEC.out]; decide), HEC.out] at h1
        have h2 : wrA (L.map cvt) = ([], 1) := h1.symm
        rw [h2]
        exact ⟨HK.out.2.1, _, .inl (World.ownsRow_nil _ _ _ _), rfl⟩
      have f0 : decide (tk < (0 : Int)) = false := decide_eq_false n0
      have f1 : decide ((4294967295 : Int) < tk) = false := decide_eq_false n1
      have f2 : decide (pt < (0 : Int)) = false := decide_eq_false n2
      have f3 : decide ((255 : Int) < pt) = false := decide_eq_false n3
      have HNO : Hid (¬ (c.tk < 0 ∨ 4294967295 < c.tk ∨ c.pt < 0 ∨ 255 < c.pt)) := by show ¬ _; rw [HEL.out.2.1, HEL.out.2.2.1]; omega
      clear n0 n1 n2 n3
      by_cases nl : 65535 < m
      · have f5 : decide ((65535 : Int) < (m : Int)) = true := decide_eq_true (by omega)
        have f6 : decide (65535 < m) = true := decide_eq_true nl
        have HEC : Hid (wrE (cvt c) = 2) := wrE_2 HNO.out (by show 65535 < c.d.length; rw [HEL.out.2.2.2]; exact nl)
        clear nl
        go_wp2_with fail
        go_ret2
        have h1 := HI.out.2.2.1
        rw [drop_cons HEL.out.1, wr_bad _ _ (by rw [HEC.out]; decide), HEC.out] at h1
        have h2 : wrA (L.map cvt) = ([], 2) := h1.symm
        rw [h2]
        exact ⟨HK.out.2.1, _, .inl (World.ownsRow_nil _ _ _ _), rfl⟩
      have f5 : decide ((65535 : Int) < (m : Int)) = false := decide_eq_false (by omega)
      have f6 : decide (65535 < m) = false := decide_eq_false nl
      have HNL : Hid (¬ 65535 < c.d.length) := by show ¬ _; rw [HEL.out.2.2.2]; exact nl
      have HEC : Hid (wrE (cvt c) = 0) := wrE_0 HNO.out HNL.out
      go_upto_region 11 with fail
      clear f0 f1 f2 f3 f5 f6
      go_upto_region 12 with fail
      go_upto_if 43 with fail
      go_cut [7] (fun x wx => x = .int .u8 (if c.ou then 1 else 0) ∧ wk = wx)
      case first =>
        cases hou : c.ou
        · rw [hou] at c2
          go_wp2
          go_meet
          exact ⟨by simp [hou], rfl⟩
        · rw [hou] at c2
          go_wp2
          go_meet
          exact ⟨by simp [hou], rfl⟩
      case rest =>
        obtain ⟨rfl, rfl⟩ := hcut
        obtain ⟨ou, hou⟩ : ∃ x : Nat, x = if c.ou then 1 else 0 := ⟨_, rfl⟩
        have hoi : (if c.ou then (1 : Int) else 0) = (ou : Int) := by rw [hou]; cases c.ou <;> rfl
        rw [hoi]
        obtain ⟨T, hT⟩ : ∃ x : Nat, tk = (x : Int) := ⟨tk.toNat, by have h1 := HNO.out; have h2 := HEL.out.2.1; omega⟩
        obtain ⟨P, hP⟩ : ∃ x : Nat, pt = (x : Int) := ⟨pt.toNat, by have h1 := HNO.out; have h2 := HEL.out.2.2.1; omega⟩
        have bT : T ≤ 4294967295 := by have h1 := HNO.out; have h2 := HEL.out.2.1; omega
        have bP : P ≤ 255 := by have h1 := HNO.out; have h2 := HEL.out.2.2.1; omega
        have HH : Hid (hdC (cvt c) = [T / 16777216 % 256, T / 65536 % 256, T / 256 % 256, T % 256, P % 256, ou, m / 256 % 256, m % 256]) := by show hdC _ = _; unfold hdC cvt; simp only; rw [HEL.out.2.1, HEL.out.2.2.1, HEL.out.2.2.2, hT, hP, hou]; rfl
        subst hT
        subst hP
        clear hou hoi
        go_upto_region 14 with fail
        obtain ⟨wy, hwy⟩ : ∃ y, y = wk.alloc (.cells #[.int .u8 ((T : Int) / 16777216), .int .u8 ((T : Int) / 65536 % 256), .int .u8 ((T : Int) / 256 % 256), .int .u8 ((T : Int) % 256), .int .u8 (P : Int), .int .u8 (ou : Int), .int .u8 ((m : Int) / 256), .int .u8 ((m : Int) % 256)] 5) := ⟨_, rfl⟩
        have HYB : Hid (Below wk.heap.size wk wy) := by show Below _ _ _; rw [hwy]; exact (Below.refl _ _).alloc (Nat.le_refl _) _
        have HYS : Hid (Seg .u8 wy (some ⟨wk.heap.size, 0, none⟩) (toI (hdC (cvt c)))) := by
          show Seg _ _ _ _
          rw [HH.out, hwy]
          have e : toI [T / 16777216 % 256, T / 65536 % 256, T / 256 % 256, T % 256, P % 256, ou, m / 256 % 256, m % 256] = [(T : Int) / 16777216, (T : Int) / 65536 % 256, (T : Int) / 256 % 256, (T : Int) % 256, (P : Int), (ou : Int), (m : Int) / 256, (m : Int) % 256] := by
            simp only [toI, List.map_cons, List.map_nil, List.cons.injEq, and_true]
            refine ⟨by omega, by omega, by omega, by omega, by omega, trivial, by omega, by omega⟩
          rw [e]
          exact seg_new3 wk .u8 5 _
        have HYW : Hid _ := hwy
        clear hwy
        go_upto_region 15 with (first | (at_builtin; refine append_row rfl (.tmp 44) (.tmp 73) rfl w.heap.size BV bs rfl ?gr wk.heap.size (hdC (cvt c)) rfl rfl ?gs (by have h1 := HI.out.2.2.2; omega) ?gb ?gk))
        case gr => rw [← HYW.out]; exact HK.out.2.2.1.below HYB.out
        case gs => rw [← HYW.out]; exact HYS.out
        case gb => rw [← HYW.out]; exact Nat.le_trans HK.out.2.1.size HYB.out.size
        rw [← HYW.out]
        intro vh w1 ho1 hk1
        try rw [← List.length_append] at ho1
        have H1 : Hid (OwnB w1 w.heap.size vh (bs ++ hdC (cvt c)).length (bs ++ hdC (cvt c)) ∧ Below w.heap.size w w1 ∧ CapAt w1 O c ∧ Seg .u8 w1 c.a (toI c.d)) := by
          have hx := HK.out.2.1.trans (HYB.out.mono HK.out.2.1.size)
          have hb : Below w.heap.size w w1 := hx.trans (hk1.below (fun q hq => (HK.out.2.2.1.lt q hq).1) hx.size)
          exact ⟨ho1, hb, (HK.out.1.below HYB.out).ch hk1 (fun e => HK.out.2.2.2 _ e rfl), HSG.out.1.old hb⟩
        have ho2_ := ho1
        unfold OwnB at ho2_
        obtain ⟨hva, hvc, hvh⟩ := owns_shape ho2_
        clear ho1 hk1 c0 c1 c2 c3 ho2_
        obtain ⟨N, hN⟩ : ∃ N, N = (bs ++ hdC (cvt c)).length := ⟨_, rfl⟩
        have hNb : N + m ≤ 140000000000000 := by rw [hN, List.length_append, hdC_len]; have h1 := HI.out.2.2.2; omega
        rw [← hN] at hvh
        have HN : Hid (N = (bs ++ hdC (cvt c)).length) := hN
        subst hvh
        clear hN
        have c3 : w1.cell? ⟨O, 3, none⟩ = some (.slice c.a m c.cap) := by rw [H1.out.2.2.1.cell 3, ← HEL.out.2.2.2]; rfl
        go_wp2_with (first | (at_builtin; refine append_own rfl (.tmp 75) (.tmp 77) rfl w.heap.size (.slice hva N hvc) (bs ++ hdC (cvt c)) rfl H1.out.1 c.a m c.cap c.d rfl HEL.out.2.2.2 H1.out.2.2.2 (by rw [← HN.out]; exact hNb) H1.out.2.1.size ?_))
        intro vd w2 ho2 hk2 _
        replace ho2 : OwnB w2 w.heap.size vd (bs ++ hdC (cvt c) ++ c.d).length (bs ++ hdC (cvt c) ++ c.d) := by simpa using ho2
        have H2 : Hid (OwnB w2 w.heap.size vd (bs ++ hdC (cvt c) ++ c.d).length (bs ++ hdC (cvt c) ++ c.d) ∧ Below w.heap.size w w2) := ⟨ho2, H1.out.2.1.trans (hk2.below (fun q hq => (H1.out.1.kind q hq).1) H1.out.2.1.size)⟩
        clear ho2 hk2 c3
        go_wp2
        go_roundw
        case rel =>
          refine ⟨k + 1, bs ++ hdC (cvt c) ++ c.d, by go_num, by omega, .inl H2.out.1, H2.out.2, ?_, ?_⟩
          · have h1 := HI.out.2.2.1
            rw [drop_cons HEL.out.1, apw_step _ _ _ HEC.out] at h1
            exact h1
          · have h1 := HI.out.2.2.2
            have h2 := HNL.out
            rw [List.length_append, List.length_append, hdC_len]
            omega
        case measure => simp [intOf]; omega

    · have p1 : decide ((k : Int) < (n : Int)) = false := decide_eq_false (by omega)
      have p2 : decide (k < n) = false := decide_eq_false hin
      have HF : Hid (wrA (L.map cvt) = (bs, 0)) := by
        have h1 := HI.out.2.2.1
        rw [List.drop_eq_nil_of_le (by rw [List.length_map, HS.out.2]; omega)] at h1
        show wrA _ = _
        rw [← h1]
        simp [apw, wrF]
      clear hin
      go_wp2_with fail
      go_ret2
      rw [HF.out]
      exact ⟨HI.out.2.1, _, HI.out.1, rfl⟩
end Go.Proofs.Ytpdfepnifjolkaa
