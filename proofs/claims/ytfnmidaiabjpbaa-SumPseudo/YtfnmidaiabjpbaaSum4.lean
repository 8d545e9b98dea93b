/-
  The statements' even, place, put.
-/
import Derived.Test.YtfnmidaiabjpbaaSum3
import Derived.Laws.AppendOwnNone
namespace Go.Proofs.Ytfnmidaiabjpbaa
open Go.RowKit

theorem run_append_nil {P : Program} {w : World} (base : Nat) (t ty e : TypeId) (i : TypeInfo) (size : Nat) (ht : P.underlying t = some (.slice e)) (hi : P.info? e = some i)
    (v : Value) (n c : Nat) (xs : List Value) (hown : w.ownsRow base e size v n xs) :
    (Builtin.append_ #[t, t] ty #[v, .slice none 0 c]).run P w = .ok v w := by
  rcases hown.2 with ⟨rfl, rfl⟩ | ⟨g, cap, cur, rfl, _, _, hnc, _⟩
  · simp [Builtin.append_, run_underlying ht, sizeOf, typeInfo, hi, Builtin.lenOf, Builtin.firstCells]
  · simp [Builtin.append_, run_underlying ht, sizeOf, typeInfo, hi, Builtin.lenOf, Builtin.firstCells, hnc, storeCells]
/-- 'append(v, x...)': v the call's own, x a slice whose elements are the numbers zs, nil or not. -/
theorem wpList_append_seg {P : Program} {w : World} {ops : Array Oper} {rest : List Oper} {o : Oper} {a : Act} {Q : Exit → Act → World → Prop} (hgd : o.guard = none) (s x : Operand) (t : TypeId)
    (ho : o.op = .call { callee := .builtin .append, args := #[s, x], argTypes := #[t, t] })
    (base : Nat) (e : TypeId) (i : TypeInfo) (z : Value) (bytes : Nat) (ht : P.underlying t = some (.slice e)) (hi : P.info? e = some i) (hz : i.zero = some z)
    (hsize : i.size = 1) (hby : i.bytes = bytes) (hzs : z.cells.size = 1)
    (v : Value) (n : Nat) (xs : List Value) (hs : a.eval s = v) (hown : w.ownsRow base e 1 v n xs)
    (k : IntKind) (ad : Option Addr) (m c : Nat) (zs : List Int) (hx : a.eval x = .slice ad m c) (hm : zs.length = m) (hseg : Seg k w ad zs)
    (h63 : n + m ≤ maxLen) (hbytes : (n + m) * bytes ≤ 140737488355328) (hbase : base ≤ w.heap.size)
    (h : ∀ v' w', w'.ownsRow base e 1 v' (n + m) (xs ++ zs.map (Value.int k)) → w.grownBy w' v.ownBlock → wpList P ops Q rest (a.put o.dst v') w') : wpList P ops Q (o :: rest) a w := by
  have nil_case : zs = [] → ad = none → wpList P ops Q (o :: rest) a w := by
    intro hz0 hn
    subst hz0 hn
    have hm0 : m = 0 := by simpa using hm.symm
    subst hm0
    refine wpList_plain hgd fun K hK => ?_
    have hrun := run_append_nil (P := P) (w := w) base t o.type e i 1 ht hi v n c xs hown
    unfold Oper.wp
    simp [execOp, ho, resolve, invoke, builtin, hs, hx, hrun, Result.andThen]
    exact hK _ _ (h v w (by simpa using hown) ⟨rfl, rfl, rfl, Nat.le_refl _, fun _ _ _ => rfl⟩)
  have some_case : ∀ b : Addr, ad = some b → (∀ j u, (zs.map (Value.int k))[j]? = some u → w.cell? (b.add j) = some u) → wpList P ops Q (o :: rest) a w := by
    intro b hb hc
    subst hb
    refine wpList_append_own w hgd s x t ho base e i z 1 bytes ht hi hz hsize hby hzs (by decide) v n xs hs hown b m c (zs.map (Value.int k)) hx (by simpa using hm) hc ?_ h63 hbytes hbase (fun v' w' h1 h2 _ => h v' w' h1 h2)
    intro u hu
    simp only [List.mem_map] at hu
    obtain ⟨y, _, rfl⟩ := hu
    rfl
  rcases hseg with hz0 | ⟨b, off, rfl, hc⟩
  · cases ad with
    | none => exact nil_case hz0 rfl
    | some b => exact some_case b rfl (by intro j u hj; rw [hz0] at hj; simp at hj)
  · refine some_case _ rfl ?_
    intro j u hj
    have hj' : j < zs.length := by
      have := (List.getElem?_eq_some_iff.1 hj).1
      simpa using this
    rw [Addr.add_lit, hc j hj']
    simp [List.getElem?_eq_getElem hj'] at hj
    rw [← hj]
    simp [List.getD, hj']

theorem grown_trans {a b c : World} {r : Option Nat} (h : a.grownBy b r) (k : b.grownBy c r) : a.grownBy c r :=
  ⟨k.os.trans h.os, k.tape.trans h.tape, k.output.trans h.output, Nat.le_trans h.size k.size, fun i hi hr => (k.block i (Nat.lt_of_lt_of_le hi h.size) hr).trans (h.block i hi hr)⟩
theorem place_any (a : Option Addr) (c k : Nat) (at' : Int) (w : World) (hk : 1 ≤ k) (hk2 : k ≤ 131072) (h1 : -9223372036854775808 ≤ at') (h2 : at' ≤ 9223372036854775807) :
    Calls Try.prog 15 #[.slice a (2 * k) c, .int .i64 at'] w fun e w' => (∃ j : Nat, e = .returned (.int .i64 ((2 * j : Nat) : Int)) ∧ j < k) ∧ w = w' := by
  by_cases h0 : at' < 0
  · go_enter Try.func15, Try.ntmps15
    go_wp2
    go_ret
    have e : -(at' + 1).tmod k = (-(at' + 1)) % k := by rw [← Int.neg_tmod, Int.tmod_eq_emod_of_nonneg (by omega)]
    have h3 := Int.emod_nonneg (-(at' + 1)) (show (k : Int) ≠ 0 by omega)
    have h4 := Int.emod_lt_of_pos (-(at' + 1)) (show (0 : Int) < k by omega)
    rw [e]
    generalize (-(at' + 1)) % (k : Int) = r at *
    exact ⟨⟨r.toNat, ret1 (by unfold wrap64; omega), by omega⟩, rfl⟩
  · go_enter Try.func15, Try.ntmps15
    go_wp2
    go_ret
    have h3 := Int.emod_nonneg at' (show (k : Int) ≠ 0 by omega)
    have h4 := Int.emod_lt_of_pos at' (show (0 : Int) < k by omega)
    generalize at' % (k : Int) = r at *
    exact ⟨⟨r.toNat, ret1 (by unfold wrap64; omega), by omega⟩, rfl⟩

theorem set_map2 (l : List Nat) (i m : Nat) : (((toI l).map (Value.int .u8)).set i (.int .u8 ((m / 256 : Nat) : Int))).set (i + 1) (.int .u8 ((m % 256 : Nat) : Int)) = (toI (S.putW l i m)).map (Value.int .u8) := by
  simp [S.putW, toI, List.map_set]
theorem u8_hi (m : Nat) (h : m ≤ 65535) : IntKind.u8.wrap ((m : Int) / 256) = ((m / 256 : Nat) : Int) := by
  simp [IntKind.wrap, IntKind.bits, IntKind.signed]; omega
theorem u8_lo (m : Nat) : IntKind.u8.wrap (m : Int) = ((m % 256 : Nat) : Int) := by
  simp [IntKind.wrap, IntKind.bits, IntKind.signed]
set_option maxHeartbeats 400000 in
theorem put_any (g n cap B i m : Nat) (l : List Nat) (w : World) (h : OwnB w B (.slice (some ⟨g, 0, none⟩) n cap) n l) (hi : i + 1 < n) (hn : n ≤ 1099511627776) (hm : m ≤ 65535) :
    Calls Try.prog 16 #[.slice (some ⟨g, 0, none⟩) n cap, .int .i64 i, .int .i64 m] w fun e w' => e = .returned (.tuple #[]) ∧ OwnB w' B (.slice (some ⟨g, 0, none⟩) n cap) n (S.putW l i m) ∧ w.grownBy w' (some g) := by
  have hl := h.len
  have c0 : w.cell? ⟨g, i, none⟩ = some (.int .u8 ((l.getD i 0 : Nat) : Int)) := by
    rw [h.cellAt i (by omega)]; simp [toI, List.getD, show i < l.length by omega]
  have hs1 := h.stored i (.int .u8 ((m / 256 : Nat) : Int))
  have c1 : (w.setCell ⟨g, i, none⟩ (.int .u8 ((m / 256 : Nat) : Int))).cell? ⟨g, i + 1, none⟩ = some (.int .u8 ((l.getD (i + 1) 0 : Nat) : Int)) := by
    rw [World.cell?_setCell_other _ _ _ _ (by simp), h.cellAt (i + 1) (by omega)]; simp [toI, List.getD, show i + 1 < l.length by omega]
  have hs2 := hs1.1.stored (i + 1) (.int .u8 ((m % 256 : Nat) : Int))
  rw [set_map2] at hs2
  have f0 := h.frozenAt i
  have f1 := hs1.1.frozenAt (i + 1)
  have HS : Hid (_ ∧ _) := hs2
  have HG : Hid (w.grownBy _ _) := hs1.2
  obtain ⟨x, hx⟩ : ∃ x, x = l.getD i 0 := ⟨_, rfl⟩
  obtain ⟨y, hy⟩ : ∃ y, y = l.getD (i + 1) 0 := ⟨_, rfl⟩
  rw [← hx] at c0
  rw [← hy] at c1
  obtain ⟨p, hp⟩ : ∃ p, p = m / 256 := ⟨_, rfl⟩
  obtain ⟨q, hq⟩ : ∃ q, q = m % 256 := ⟨_, rfl⟩
  rw [← hp] at c1 f1 HG
  rw [← hp, ← hq] at HS
  have hp1 : IntKind.u8.wrap ((m : Int) / 256) = (p : Int) := by rw [hp]; exact u8_hi m hm
  have hq1 : IntKind.u8.wrap (m : Int) = (q : Int) := by rw [hq]; exact u8_lo m
  clear hs1 hs2 hx hy hl h hp hq
  go_enter Try.func16, Try.ntmps16
  go_wp2
  go_end0
  exact ⟨rfl, HS.out.1, grown_trans HG.out HS.out.2⟩

set_option maxHeartbeats 400000 in
theorem even_any (a : Option Addr) (len cap : Nat) (l : List Nat) (w : World) (hl : l.length = len) (hs : Seg .u8 w a (toI l)) (h256 : ∀ x ∈ l, x < 256) (h1 : len ≤ cap) (h2 : cap ≤ 9223372036854775807) :
    Calls Try.prog 12 #[.slice a len cap] w fun e w' => ∃ v k m, e = .returned v ∧ OwnB w' w.heap.size v (2 * k) m ∧ k ≤ 65536 ∧ (∀ x ∈ m, x < 256) ∧ Below w.heap.size w w' := by
  obtain ⟨i0, hi, hz0, hz1, hz2⟩ := info_parts Try.infoByte
  obtain ⟨m, hm⟩ : ∃ m, m = l.take 131072 := ⟨_, rfl⟩
  have hm256 : ∀ x ∈ m, x < 256 := by rw [hm]; exact fun x hx => h256 x (List.mem_of_mem_take hx)
  have hsm : Seg .u8 w a (toI m) := by
    rw [hm, ← toI_take]
    by_cases h : 131072 ≤ l.length
    · exact hs.part0 131072 (by rw [toI_len]; exact h)
    · rw [List.take_of_length_le (by rw [toI_len]; omega)]; exact hs
  have hml : m.length ≤ 131072 ∧ (len ≤ 131072 → m.length = len) ∧ (131072 < len → m.length = 131072) := by rw [hm]; simp; omega
  obtain ⟨hml1, hml2, hml3⟩ := hml
  have HM2 : Hid _ := hml2
  have HM3 : Hid _ := hml3
  have HL : Hid ((toI m).length = m.length) := toI_len m
  clear hm hs hl hml2 hml3
  by_cases hbig : 131072 < len
  · have HML : Hid (m.length = 131072) := HM3.out hbig
    go_enter Try.func12, Try.ntmps12
    go_wp2_with (at_builtin; refine wpList_append_seg rfl (.tmp 9) (.tmp 10) 25 rfl w.heap.size 5 i0 (.int .u8 0) 1 Try.underlying25 hi hz0 hz1 hz2 rfl (.slice none 0 0) 0 [] rfl (World.ownsRow_nil _ _ _ _) .u8 a 131072 cap (toI m) rfl (by rw [HL.out]; exact HML.out) hsm (by unfold maxLen; omega) (by omega) (Nat.le_refl _) ?_)
    intro v1 w1 ho1 hg1
    have hb1 : Below w.heap.size w w1 := (Below.refl _ _).grown hg1 (Nat.le_refl _) (by intro k hk; simp [Value.ownBlock] at hk)
    obtain ⟨a1, c1, rfl⟩ := owns_shape ho1
    clear hg1
    go_wp2
    go_ret
    exact ⟨_, 65536, m, rfl, ho1, by omega, hm256, hb1⟩
  · have HML : Hid (m.length = len) := HM2.out (by omega)
    go_enter Try.func12, Try.ntmps12
    go_wp2_with (at_builtin; refine wpList_append_seg rfl (.tmp 9) (.tmp 10) 25 rfl w.heap.size 5 i0 (.int .u8 0) 1 Try.underlying25 hi hz0 hz1 hz2 rfl (.slice none 0 0) 0 [] rfl (World.ownsRow_nil _ _ _ _) .u8 a len cap (toI m) rfl (by rw [HL.out]; exact HML.out) hsm (by unfold maxLen; omega) (by omega) (Nat.le_refl _) ?_)
    intro v1 w1 ho1 hg1
    have hb1 : Below w.heap.size w w1 := (Below.refl _ _).grown hg1 (Nat.le_refl _) (by intro k hk; simp [Value.ownBlock] at hk)
    obtain ⟨a1, c1, rfl⟩ := owns_shape ho1
    clear hg1
    by_cases hodd : len % 2 = 1
    · have ho : ((len : Int) % 2 == 1) = true := by simp; omega
      go_wp2_with (at_builtin; refine wpList_append_own _ rfl (.tmp 16) (.tmp 17) 25 rfl w.heap.size 5 i0 (.int .u8 0) 1 1 Try.underlying25 hi hz0 hz1 hz2 rfl (by decide) _ _ _ rfl (ho1.alloc _) ⟨w1.heap.size, 0, none⟩ 1 1 [.int .u8 0] rfl rfl ?c1 ?c2 ?c3 ?c4 ?c5 ?_)
      case c1 => exact cell_one_new _ _ _
      case c2 => intro u hu; simp at hu; subst hu; rfl
      case c3 => unfold maxLen; omega
      case c4 => omega
      case c5 => have := hb1.size; simp; omega
      intro v2 w2 ho2 hg2 _
      have hb2 : Below w.heap.size w w2 := (hb1.alloc hb1.size _).grown hg2 (by have := hb1.size; simp; omega) (fun j hj => (ho1.lt j hj).1)
      clear hg2
      go_wp2
      go_ret
      refine ⟨v2, (len + 1) / 2, m ++ [0], rfl, ?_, by omega, ?_, hb2⟩
      · rw [show 2 * ((len + 1) / 2) = len + 1 by omega]
        simpa [OwnB, toI] using ho2
      · intro x hx
        rcases List.mem_append.1 hx with hx | hx
        · exact hm256 x hx
        · simp at hx; omega
    · have ho : ((len : Int) % 2 == 1) = false := by simp; omega
      go_wp2
      go_ret
      refine ⟨_, len / 2, m, rfl, ?_, by omega, hm256, hb1⟩
      rw [show 2 * (len / 2) = len by omega]
      exact ho1

theorem own_form {w : World} {B : Nat} {v : Value} {n : Nat} {l : List Nat} (h : OwnB w B v n l) (hn : 0 < n) : ∃ g c, v = .slice (some ⟨g, 0, none⟩) n c ∧ B ≤ g ∧ g < w.heap.size := by
  rcases h.2 with ⟨_, h0⟩ | ⟨g, cap, cur, rfl, hg, hh, r⟩
  · omega
  · exact ⟨g, cap, rfl, hg, by rcases Nat.lt_or_ge g w.heap.size with h | h; exact h; rw [Array.getElem?_eq_none h] at hh; cases hh⟩
theorem wv_even_append (l m : List Nat) (h : l.length % 2 = 0) : S.wv false (l ++ m) = S.wv false l + S.wv false m := by
  rw [S.wv_append]
  have : S.par false l.length = false := by simp [S.par, h]
  rw [this]
theorem wordAt_append (l m : List Nat) (i : Nat) (h : i + 1 < l.length) : S.wordAt (l ++ m) i = S.wordAt l i := by
  unfold S.wordAt
  simp [List.getD, List.getElem?_append_left h, List.getElem?_append_left (show i < l.length by omega)]
theorem mem2 (l : List Nat) (c : Nat) (hc : c ≤ 65535) (h : ∀ x ∈ l, x < 256) : ∀ x ∈ l ++ [c / 256, c % 256], x < 256 := by
  intro x hx
  simp only [List.mem_append, List.mem_cons, List.not_mem_nil, or_false] at hx
  rcases hx with hx | rfl | rfl
  · exact h x hx
  · omega
  · omega
theorem cells_two_new (w : World) (v u : Value) (t : TypeId) : ∀ (j : Nat) (x : Value), [v, u][j]? = some x → (w.alloc (.cells #[v, u] t)).cell? ((⟨w.heap.size, 0, none⟩ : Addr).add j) = some x := by
  intro j x hj
  rw [Addr.add_lit, Nat.zero_add, World.cell?_alloc_at _ _ _ _ rfl]
  simpa using hj

theorem even_n (a : Option Addr) (len cap : Nat) (l : List Nat) (w : World) (hl : l.length = len) (hs : Seg .u8 w a (toI l)) (h256 : ∀ x ∈ l, x < 256) (h1 : len ≤ cap) (h2 : cap ≤ 9223372036854775807) :
    Calls Try.prog 12 #[.slice a len cap] w fun e w' => ∃ v n m, e = .returned v ∧ OwnB w' w.heap.size v n m ∧ n ≤ 131072 ∧ Hid (n % 2 = 0) ∧ (∀ x ∈ m, x < 256) ∧ Below w.heap.size w w' := by
  refine (even_any a len cap l w hl hs h256 h1 h2).mono ?_
  rintro e w1 ⟨v, k, m, rfl, ho, hk, hm, hb⟩
  exact ⟨v, 2 * k, m, rfl, ho, by omega, by show _ = _; omega, hm, hb⟩
theorem place_n (a : Option Addr) (c n : Nat) (at' : Int) (w : World) (hn : Hid (n % 2 = 0)) (hk : 0 < n) (hk2 : n ≤ 131074) (h1 : -9223372036854775808 ≤ at') (h2 : at' ≤ 9223372036854775807) :
    Calls Try.prog 15 #[.slice a n c, .int .i64 at'] w fun e w' => ∃ i : Nat, e = .returned (.int .i64 (i : Int)) ∧ Hid (i % 2 = 0) ∧ i + 1 < n ∧ w = w' := by
  have h0 := hn.out
  obtain ⟨k, rfl⟩ : ∃ k, n = 2 * k := ⟨n / 2, by omega⟩
  refine (place_any a c k at' w (by omega) (by omega) h1 h2).mono ?_
  rintro e w1 ⟨⟨j, rfl, hj⟩, rfl⟩
  exact ⟨2 * j, rfl, by show _ = _; omega, by omega, rfl⟩
end Go.Proofs.Ytfnmidaiabjpbaa
