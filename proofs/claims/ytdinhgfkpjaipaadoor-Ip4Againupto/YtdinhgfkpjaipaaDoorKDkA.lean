/-
  Desk0 Desk1 Desk2 Book1 Book2 Book3 Book4 Spot6, one behind the other.
-/
import Derived.Test.YtdinhgfkpjaipaaDoorI4Win
import Derived.Deep.DeepCutAuto
import Derived.Test.YtdinhgfkpjaipaaDoorI4Open
namespace Go.Proofs.YtdinhgfkpjaipaaDoor.Dk
open Go.RowKit

def ovr (f : Nat → Nat) (d : List Nat) (j : Nat) : List Nat := (List.range j).map f ++ d.drop j
theorem ovr_set (f : Nat → Nat) (d : List Nat) (j : Nat) (h : j < d.length) : (ovr f d j).set j (f j) = ovr f d (j + 1) := by
  unfold ovr
  rw [List.set_append_right _ _ (by simp), List.length_map, List.length_range, Nat.sub_self, List.drop_eq_getElem_cons h, List.set_cons_zero, List.range_succ, List.map_append]
  simp
theorem alike_any (a b : Option Addr) (ca cb : Nat) (l m : List Nat) (w : World) (hl : Seg .u8 w a (toI l)) (hm : Seg .u8 w b (toI m)) (hl2 : ∀ x ∈ l, x < 256) (hm2 : ∀ x ∈ m, x < 256) :
    Calls Tryd.prog 74 #[.slice a l.length ca, .slice b m.length cb] w fun e w' => e = .returned (.bool (decide (l = m))) ∧ w = w' := by
  have k1 := conv_any w a ca l hl hl2
  have k2 := conv_any w b cb m hm hm2
  obtain ⟨s, hs⟩ : ∃ s, s = strOf l := ⟨_, rfl⟩
  obtain ⟨t, ht⟩ : ∃ t, t = strOf m := ⟨_, rfl⟩
  rw [← hs] at k1
  rw [← ht] at k2
  have HD : Hid ((s.toList == t.toList) = decide (l = m)) := by
    show (s.toList == t.toList) = decide (l = m)
    rw [hs, ht, ByteArray.toList_eq, ByteArray.toList_eq]
    by_cases h : l = m
    · subst h; simp
    · have : (strOf l).data.toList ≠ (strOf m).data.toList := fun e => h (strOf_eq l m hl2 hm2 (WideShapes.bytes_inj e))
      rw [decide_eq_false h]
      simpa using this
  clear hs ht
  go_enter Tryd.func74, Tryd.ntmps74
  go_wp2
  go_ret
  exact ⟨congrArg (fun b => Ending.returned (.bool b)) HD.out, rfl⟩

theorem xor_step {x : World} {b m c : Nat} {a : Option Addr} {l' : List Int} (h : x.ownsRow b 5 1 (.slice a m c) m (l'.map (Value.int .u8))) (k : Nat) (hk : k < m) : ∃ g, a = some ⟨g, 0, none⟩ ∧ ∃ z : Int, x.cell? ⟨g, k, none⟩ = some (.int .u8 z) ∧ x.frozen? ⟨g, k, none⟩ = false ∧
    ∀ (u : Value) (y : Int), u = .int .u8 y → (x.setCell ⟨g, k, none⟩ u).ownsRow b 5 1 (.slice a m c) m ((l'.set k y).map (Value.int .u8)) ∧ Ch (fun q => q = g) x (x.setCell ⟨g, k, none⟩ u) := by
  have hl : l'.length = m := by have := h.1; simpa using this
  rcases h.2 with ⟨_, h0⟩ | ⟨g, cap, cur, e, _⟩
  · omega
  have ea : a = some ⟨g, 0, none⟩ := (Value.slice.inj e).1
  subst ea
  refine ⟨g, rfl, l'[k]'(by omega), ?_, h.frozenAt k, fun u y hu => ?_⟩
  · rw [h.cellAt k (by omega)]; simp [show k < l'.length by omega]
  · subst hu
    refine ⟨?_, (Ch.refl _ x).set _ _ rfl⟩
    have := (h.stored k (.int .u8 y)).1
    rwa [← List.map_set] at this

theorem yields_bytes {ops : Array Oper} {o : Oper} {a : Act} {S : World → Prop} (x : Operand) (ho : o.op = .load 26 x) (b off : Nat) (u : Value) (hx : a.eval x = .pointer (some ⟨b, off, none⟩)) (hw : Region.wanted o (yielded ops a.tmps) = true) (hS : ∀ w, S w → w.cell? ⟨b, off, none⟩ = some u) : YieldsIf Tryd.prog ops S o u a := by
  refine .inl ⟨hw, fun w hb => ?_⟩
  have hc := hS w hb
  have hu := Tryd.underlying26
  obtain ⟨dst, op, type, pos, after, guard⟩ := o
  simp only at ho
  subst ho
  simp only [execOp, Sem.run_bind, Sem.run_pure]
  rw [hx]
  simp [Instr.loadAt, go_sem, hc]
theorem yields_int {ops : Array Oper} {o : Oper} {a : Act} {S : World → Prop} (x : Operand) (ho : o.op = .load 3 x) (b off : Nat) (u : Value) (hx : a.eval x = .pointer (some ⟨b, off, none⟩)) (hw : Region.wanted o (yielded ops a.tmps) = true) (hS : ∀ w, S w → w.cell? ⟨b, off, none⟩ = some u) : YieldsIf Tryd.prog ops S o u a := by
  refine .inl ⟨hw, fun w hb => ?_⟩
  have hc := hS w hb
  have hu := Tryd.underlying3
  obtain ⟨dst, op, type, pos, after, guard⟩ := o
  simp only at ho
  subst ho
  simp only [execOp, Sem.run_bind, Sem.run_pure]
  rw [hx]
  simp [Instr.loadAt, go_sem, hc]
theorem yields_u8 {ops : Array Oper} {o : Oper} {a : Act} {S : World → Prop} (x : Operand) (ho : o.op = .load 5 x) (b off : Nat) (u : Value) (hx : a.eval x = .pointer (some ⟨b, off, none⟩)) (hw : Region.wanted o (yielded ops a.tmps) = true) (hS : ∀ w, S w → w.cell? ⟨b, off, none⟩ = some u) : YieldsIf Tryd.prog ops S o u a := by
  refine .inl ⟨hw, fun w hb => ?_⟩
  have hc := hS w hb
  have hu := Tryd.underlying5
  obtain ⟨dst, op, type, pos, after, guard⟩ := o
  simp only at ho
  subst ho
  simp only [execOp, Sem.run_bind, Sem.run_pure]
  rw [hx]
  simp [Instr.loadAt, go_sem, hc]
theorem i64_mid (x : Int) (h0 : -4611686018427387904 ≤ x) (h1 : x ≤ 4611686018427387904) : IntKind.i64.wrap x = x := by simp [IntKind.wrap, IntKind.bits, IntKind.signed]; omega
theorem seg_pre {w : World} {g : Nat} {l m : List Nat} (h : Seg .u8 w (some ⟨g, 0, none⟩) (toI (l ++ m))) : Seg .u8 w (some ⟨g, 0, none⟩) (toI l) := by
  rcases h with h | ⟨b, off, e, hc⟩
  · have : l ++ m = [] := by
      have h1 := congrArg List.length h
      rw [toI_len] at h1
      exact List.eq_nil_of_length_eq_zero h1
    exact .inl (by rw [(List.append_eq_nil_iff.1 this).1]; rfl)
  · refine .inr ⟨b, off, e, fun i hi => ?_⟩
    rw [toI_len] at hi
    rw [hc i (by rw [toI_len, List.length_append]; omega), toI_getD, toI_getD]
    congr 2
    simp [List.getD, List.getElem?_append_left hi]
theorem wpList_copy_ch {P : Program} {w : World} {ops : Array Oper} {rest : List Oper} {o : Oper} {a : Act} {Q : Exit → Act → World → Prop} (hgd : o.guard = none) (d s : Operand) (dT sT : TypeId)
    (ho : o.op = .call { callee := .builtin .copy, args := #[d, s], argTypes := #[dT, sT] }) (elem : TypeId) (hu : P.underlying dT = some (.slice elem)) (hsz : (P.info? elem).map (·.size) = some 1)
    (dp sp : Option Addr) (dLen dCap sLen sCap : Nat) (hd : a.eval d = .slice dp dLen dCap) (hs : a.eval s = .slice sp sLen sCap)
    (g off : Nat) (cur : List Value) (t : TypeId) (hg : w.heap[g]? = some (.cells cur.toArray t (0, 0))) (cs : List Value) (hn : cs.length = Nat.min sLen dLen)
    (hpos : 0 < cs.length → dp = some ⟨g, off, none⟩ ∧ ∃ ad, sp = some ad ∧ ∀ j v, cs[j]? = some v → w.cell? (ad.add j) = some v)
    (hfit : off + cs.length ≤ cur.length) (h1 : ∀ v ∈ cs, v.oneCell' = true)
    (h : ∀ w', Hid (w'.heap[g]? = some (.cells (splice cur off cs).toArray t (0, 0))) → Ch (fun q => q = g) w w' → wpList P ops Q rest (a.put o.dst (goInt cs.length)) w') :
    wpList P ops Q (o :: rest) a w := by
  by_cases h0 : cs.length = 0
  · obtain rfl : cs = [] := List.eq_nil_of_length_eq_zero h0
    refine wpList_copy_nothing hgd d s dT sT ho elem hu hsz dp sp dLen dCap sLen sCap hd hs (by simpa using hn.symm) ?_
    exact h w (show _ = _ by simpa [splice] using hg) (Ch.refl _ _)
  · obtain ⟨rfl, ad, rfl, hsrc⟩ := hpos (by omega)
    refine wpList_copy_own hgd d s dT sT ho elem hu hsz g off dLen dCap ad sLen sCap hd hs cur.toArray t hg cs hn hsrc (by simpa using hfit) h1 ?_
    exact h _ (show _ = _ by simpa [splice] using setRow_heap w g _ _ t _ hg) ⟨rfl, rfl, rfl, by simp [World.setRow], fun k _ hk => setRow_other w g k _ hk⟩
theorem seg_cells {w : World} {a : Option Addr} {l : List Nat} (h : Seg .u8 w a (toI l)) (h0 : 0 < ((toI l).map (Value.int .u8)).length) : ∃ ad, a = some ad ∧ ∀ j v, ((toI l).map (Value.int .u8))[j]? = some v → w.cell? (ad.add j) = some v := by
  rcases h with hnil | ⟨b, off, rfl, hc⟩
  · rw [hnil] at h0; simp at h0
  · refine ⟨_, rfl, fun j v hj => ?_⟩
    have hj' : j < (toI l).length := by simpa using (List.getElem?_eq_some_iff.1 hj).1
    rw [Addr.add_lit, hc j hj']
    simp [List.getElem?_eq_getElem hj'] at hj
    rw [← hj]
    simp [List.getD, hj']
theorem owns_pos {w : World} {base : Nat} {e : TypeId} {v : Value} {n : Nat} {xs : List Value} (h : w.ownsRow base e 1 v n xs) (hn : 0 < n) : ∃ g c, v = .slice (some ⟨g, 0, none⟩) n c := by
  rcases h.2 with ⟨rfl, h0⟩ | ⟨g, cap, cur, rfl, _⟩
  · omega
  · exact ⟨g, cap, rfl⟩
theorem append_splitK {P : Program} {w : World} {ops : Array Oper} {rest : List Oper} {o : Oper} {a : Act} {Q : Exit → Act → World → Prop} (sz : Nat) (hsz : 0 < sz) (hgd : o.guard = none) (s x : Operand) (t : TypeId)
    (ho : o.op = .call { callee := .builtin .append, args := #[s, x], argTypes := #[t, t] })
    (base : Nat) (e : TypeId) (i : TypeInfo) (z : Value) (bytes : Nat) (ht : P.underlying t = some (.slice e)) (hi : P.info? e = some i) (hz : i.zero = some z)
    (hsize : i.size = sz) (hby : i.bytes = bytes) (hzs : z.cells.size = sz)
    (v : Value) (n : Nat) (xs : List Value) (hs : a.eval s = v) (hown : w.ownsRow base e sz v n xs)
    (ad : Addr) (m c : Nat) (news : List Value) (hx : a.eval x = .slice (some ad) m c) (hl : news.length = m * sz) (hnews : ∀ j u, news[j]? = some u → w.cell? (ad.add j) = some u) (h1 : ∀ u ∈ news, u.oneCell' = true)
    (h63 : n + m ≤ maxLen) (hbytes : (n + m) * bytes ≤ 140737488355328) (hbase : base ≤ w.heap.size)
    (h : ∀ v' w', w'.ownsRow base e sz v' (n + m) (xs ++ news) → ((w.grownBy w' none ∧ ∀ q, v'.ownBlock = some q → w.heap.size ≤ q) ∨ (w.grownBy w' v.ownBlock ∧ v'.ownBlock = v.ownBlock ∧ v.ownBlock ≠ none)) → wpList P ops Q rest (a.put o.dst v') w') : wpList P ops Q (o :: rest) a w := by
  rcases hown.2 with ⟨rfl, rfl⟩ | ⟨g, cap, cur, rfl, hbg, hg, hnc, hcm, hcs, htake⟩
  · have hx0 : xs = [] := List.eq_nil_of_length_eq_zero (by have := hown.1; simpa using this)
    subst hx0
    refine wpList_append_own_at w hgd s x t ho w.heap.size e i z sz bytes ht hi hz hsize hby hzs hsz (.slice none 0 0) 0 [] hs (World.ownsRow_nil _ _ _ _) ad m c news hx hl hnews h1 h63 hbytes (Nat.le_refl _) ?_
    intro v' w' r1 r2 _ _
    exact h v' w' (owns_mono r1 hbase) (.inl ⟨r2, fun q hq => (r1.lt q hq).1⟩)
  · by_cases hroom : n + m ≤ cap
    · refine wpList_append_own_spare w hgd s x t ho base e i sz ht hi hsize g n cap xs hs hown ad m c news hx hl hnews h1 hroom ?_
      intro w' r1 r2
      exact h _ w' r1 (.inr ⟨r2, rfl, by simp [Value.ownBlock]⟩)
    · refine wpList_plain hgd fun K hK => ?_
      obtain ⟨v', w', hrun, r1, r2⟩ := run_append_arg_grows (P := P) w t o.type e i z sz bytes ht hi hz hsize hby hzs hsz ⟨g, 0, none⟩ n cap xs hown.1 (hown.cells rfl) ad m c news hl hnews (by omega) h63 hbytes
      unfold Oper.wp
      simp [execOp, ho, resolve, invoke, builtin, hs, hx, hrun, Result.andThen]
      exact hK _ _ (h v' w' (owns_mono r1 hbase) (.inl ⟨r2, fun q hq => (r1.lt q hq).1⟩))
end Go.Proofs.YtdinhgfkpjaipaaDoor.Dk
namespace Go.Proofs.YtdinhgfkpjaipaaDoor.Dk
open Go.RowKit

def bh (i : Nat) : Nat := ((203 - 5 * (i : Int)) % 256).toNat
theorem bh_lt (i : Nat) : bh i < 256 := by unfold bh; omega
theorem bh_wrap (i : Nat) : IntKind.u8.wrap (203 - 5 * (i : Int)) = ((bh i : Nat) : Int) := by
  simp [bh, IntKind.wrap, IntKind.bits, IntKind.signed]; omega
theorem mark_any (i : Nat) (w : World) (h : i ≤ 4398046511104) : Calls Tryd.prog 67 #[.int .i64 (i : Int)] w fun e w' => e = .returned (.int .u8 ((bh i : Nat) : Int)) ∧ w = w' := by
  have h2 := bh_wrap i
  go_enter Tryd.func67, Tryd.ntmps67
  go_wp2
  go_ret
  exact ⟨rfl, rfl⟩
/-- the desk in memory -/
structure DeskAt (w : World) (B D : Nat) (a : Option Addr) (N n : Nat) (xs : List Int) : Prop where
  c0 : w.cell? ⟨D, 0, none⟩ = some (.slice a N N)
  c1 : w.cell? ⟨D, 1, none⟩ = some (.int .i64 (n : Int))
  fz : ∀ j, w.frozen? ⟨D, j, none⟩ = false
  own : w.ownsRow B 5 1 (.slice a N N) N (xs.map (Value.int .u8))
  nD : ∀ g, a = some ⟨g, 0, none⟩ → g ≠ D
  hD : B ≤ D
  hN : N ≤ 2097664
def dB (D : Nat) (a : Option Addr) (q : Nat) : Prop := q = D ∨ ∃ y, a = some y ∧ y.block = q
variable {w w' : World} {B D : Nat} {a : Option Addr} {N n : Nat} {xs : List Int}
theorem own_blk (h : w.ownsRow B 5 1 (.slice a N N) N (xs.map (Value.int .u8))) : ∀ q, (Value.slice a N N).ownBlock = some q → dB D a q := fun q hq => by
  rcases h.2 with ⟨h1, _⟩ | ⟨g, cap, cur, h1, _⟩
  · rw [h1] at hq; cases hq
  · have e := (Value.slice.inj h1).1
    subst e
    have : g = q := by simpa [Value.ownBlock] using hq
    exact .inr ⟨_, rfl, this⟩
theorem DeskAt.ch {T : Nat → Prop} (h : DeskAt w B D a N n xs) (k : Ch T w w') (hT : ∀ q, dB D a q → ¬ T q) : DeskAt w' B D a N n xs :=
  ⟨k.cell h.c0 (hT D (.inl rfl)), k.cell h.c1 (hT D (.inl rfl)), fun j => (k.frozen (p := ⟨D, j, none⟩) (World.block_lt_of_cell? w ⟨D, 0, none⟩ h.c0) (hT D (.inl rfl))).trans (h.fz j), k.owns h.own (fun q hq => hT q (own_blk h.own q hq)), h.nD, h.hD, h.hN⟩
theorem DeskAt.below (h : DeskAt w B D a N n xs) (k : Below w.heap.size w w') : DeskAt w' B D a N n xs := h.ch (Ch.ofBelow (S := fun _ => False) k) (fun _ _ => id)
/-- what is lent, and the marks behind it -/
def dk (l : List Nat) (N : Nat) : List Nat := l ++ ((List.range N).map bh).drop l.length
theorem dk_len (l : List Nat) (N : Nat) (h : l.length ≤ N) : (dk l N).length = N := by simp [dk]; omega
theorem ovrI_set (f : Nat → Nat) (d : List Nat) (j : Nat) (h : j < d.length) : ((toI (ovr f d j)).map (Value.int .u8)).set j (.int .u8 ((f j : Nat) : Int)) = (toI (ovr f d (j + 1))).map (Value.int .u8) := by
  rw [← ovr_set f d j h]; simp [toI, List.map_set]
theorem DeskAt.put {g : Nat} (h : DeskAt w B D (some ⟨g, 0, none⟩) N n xs) (k : Nat) (hk : k < N) (y : Int) : ∃ zs, DeskAt (w.setCell ⟨g, k, none⟩ (.int .u8 y)) B D (some ⟨g, 0, none⟩) N n zs ∧ Ch (fun q => q = g) w (w.setCell ⟨g, k, none⟩ (.int .u8 y)) := by
  obtain ⟨g2, hg2, z2, _, _, NX⟩ := xor_step h.own k hk
  have e2 : g2 = g := by simpa using hg2.symm
  subst e2
  obtain ⟨n1, n2⟩ := NX (.int .u8 y) y rfl
  have nD := h.nD _ rfl
  exact ⟨_, ⟨n2.cell h.c0 (fun e => nD e.symm), n2.cell h.c1 (fun e => nD e.symm), fun j => (n2.frozen (p := ⟨D, j, none⟩) (World.block_lt_of_cell? w ⟨D, 0, none⟩ h.c0) (fun e => nD e.symm)).trans (h.fz j), n1, h.nD, h.hD, h.hN⟩, n2⟩
set_option maxRecDepth 100000 in
set_option maxHeartbeats 3200000 in
theorem back_any (w : World) (B D g N : Nat) (ba : Option Addr) (bc : Nat) (l : List Nat) (h : DeskAt w B D (some ⟨g, 0, none⟩) N l.length (toI (dk l N))) (hn : l.length ≤ N) (hs : Seg .u8 w ba (toI l)) (h256 : ∀ y ∈ l, y < 256) :
    Calls Tryd.prog 41 #[.pointer (some ⟨D, 0, none⟩), .slice ba l.length bc] w fun e w' => e = .returned (.bool true) ∧ Below w.heap.size w w' := by
  have HH : Hid _ := h
  have hN := h.hN
  have HSG : Hid (Seg .u8 w (some ⟨g, 0, none⟩) (toI l)) := by
    obtain ⟨a', c', e', sg, _⟩ := owns_seg h.own
    have ea := (Value.slice.inj e').1
    rw [← ea] at sg
    exact seg_pre sg
  have HSB : Hid (Seg .u8 w ba (toI l)) := hs
  have HC : Hid (∀ k, l.length ≤ k → k < N → ∀ x, Below w.heap.size w x → x.cell? ⟨g, k, none⟩ = some (.int .u8 ((bh k : Nat) : Int))) := fun k h1 h2 x hx => by
    have hd : (dk l N).length = N := dk_len l N hn
    rw [(h.below hx).own.cellAt k (by omega), List.getElem?_map]
    have e1 : (toI (dk l N))[k]? = some ((bh k : Nat) : Int) := by
      unfold toI
      rw [List.getElem?_map]
      have e2 : (dk l N)[k]? = some (bh k) := by
        unfold dk
        rw [List.getElem?_append_right h1, List.getElem?_drop, show l.length + (k - l.length) = k by omega]
        simp [h2]
      rw [e2]; rfl
    rw [e1]; rfl
  obtain ⟨n, hnn⟩ : ∃ n, n = l.length := ⟨_, rfl⟩
  have HN : Hid (l.length = n) := hnn.symm
  have HD : Hid (∀ x, Below w.heap.size w x → x.cell? ⟨D, 0, none⟩ = some (.slice (some ⟨g, 0, none⟩) N N) ∧ x.cell? ⟨D, 1, none⟩ = some (.int .i64 (n : Int))) := fun x hx => ⟨(h.below hx).c0, by rw [hnn]; exact (h.below hx).c1⟩
  have H256 : Hid _ := h256
  rw [← hnn] at hn HC ⊢
  clear h hs hnn h256
  have nN : (n : Int) ≤ (N : Int) := by omega
  go_enter Tryd.func41, Tryd.ntmps41
  go_wp2
  refine MixH.start (fun x => Below w.heap.size w x) (by kernel_rfl) ?_
  obtain ⟨wA, hwA⟩ : ∃ wA, wA = w.drew := ⟨_, rfl⟩
  have hS : Below w.heap.size w wA := by rw [hwA]; exact (Below.refl _ _).drew
  have Q : Hid _ := alike_any (some ⟨g, 0, none⟩) ba N bc l l wA (HSG.out.old hS) (HSB.out.old hS) H256.out H256.out
  rw [decide_eq_true rfl, HN.out] at Q
  rw [← hwA]
  clear hwA
  refine MixH.takes [true, true, true, false, true, true] 16 (by kernel_rfl) (by kernel_rfl) (by decide) (by kernel_rfl) hS (fun K hK => ?_)
  simp only [Mix.pick]
  repeat (go_big_quiet_step (fail))
  refine wpQuiet_nil (hK _ ?_)
  clear hK K
  refine MixH.take 15 3 _ (.int .i64 (n : Int)) rfl (by kernel_rfl) (by kernel_rfl) (by kernel_rfl) (by kernel_rfl) (yields_int (.tmp 8) rfl D 1 (.int .i64 (n : Int)) rfl rfl (fun x h => (HD.out x h).2)) hS (fun a' ha => ?_)
  simp only [Act.put, List.setIfInBounds_toArray, List.set_cons_succ, List.set_cons_zero] at ha
  subst ha
  refine MixH.takes [false, false, false, false, false, false, true, true] 13 (by kernel_rfl) (by kernel_rfl) (by decide) (by kernel_rfl) hS (fun K hK => ?_)
  simp only [Mix.pick]
  repeat (go_big_quiet_step (fail))
  refine wpQuiet_nil (hK _ ?_)
  clear hK K
  refine MixH.takes [false, false, false, false, false, false, false, false, true, true, true, false, true, true, true, false, false, true] 6 (by kernel_rfl) (by kernel_rfl) (by decide) (by kernel_rfl) hS (fun K hK => ?_)
  simp only [Mix.pick]
  repeat (go_big_quiet_step (fail))
  refine wpQuiet_nil (hK _ ?_)
  clear hK K
  refine MixH.take 5 11 _ (.slice (some ⟨g, 0, none⟩) N N) rfl (by kernel_rfl) (by kernel_rfl) (by kernel_rfl) (by kernel_rfl) (yields_bytes (.tmp 16) rfl D 0 (.slice (some ⟨g, 0, none⟩) N N) rfl rfl (fun x h => (HD.out x h).1)) hS (fun a' ha => ?_)
  simp only [Act.put, List.setIfInBounds_toArray, List.set_cons_succ, List.set_cons_zero] at ha
  subst ha
  refine MixH.take 4 15 _ (.int .i64 (n : Int)) rfl (by kernel_rfl) (by kernel_rfl) (by kernel_rfl) (by kernel_rfl) (yields_int (.tmp 20) rfl D 1 (.int .i64 (n : Int)) rfl rfl (fun x h => (HD.out x h).2)) hS (fun a' ha => ?_)
  simp only [Act.put, List.setIfInBounds_toArray, List.set_cons_succ, List.set_cons_zero] at ha
  subst ha
  refine MixH.takes [false, false, false, false, false, false, false, false, false, false, false, false, false, false, false, false, true] 3 (by kernel_rfl) (by kernel_rfl) (by decide) (by kernel_rfl) hS (fun K hK => ?_)
  simp only [Mix.pick]
  repeat (go_big_quiet_step (fail))
  refine wpQuiet_nil (hK _ ?_)
  clear hK K
  refine MixH.one [false, false, false, false, false, false, false, false, false, false, false, false, false, false, false, false, false, false, true] 2 18 _ rfl rfl (by kernel_rfl) (by kernel_rfl) (fun K hK => ?_)
  simp only [Mix.pick]
  go_wp2_with fail
  refine Calls.mono Q.out ?_
  rintro e wN ⟨rfl, rfl⟩
  clear Q
  go_wp2
  refine ⟨rfl, hK _ _ hS ?_⟩
  clear hK K
  refine MixH.takes [false, false, false, false, false, false, false, false, false, false, false, false, false, false, false, false, false, false, false, true, true] 0 (by kernel_rfl) (by kernel_rfl) (by decide) (by kernel_rfl) hS (fun K hK => ?_)
  simp only [Mix.pick]
  repeat (go_big_quiet_step (fail))
  refine wpQuiet_nil (hK _ ?_)
  clear hK K
  refine MixH.done (by kernel_rfl) ?_
  have c1 := (HD.out wA hS).2
  go_wp2
  obtain ⟨wz, hwz⟩ : ∃ wz, wz = wA := ⟨_, rfl⟩
  go_loopw [5] (fun ix wr => ∃ k : Nat, n ≤ k ∧ k ≤ N ∧ ix = .int .i64 k ∧ Below w.heap.size w wr) (fun ix _ => N - (intOf ix).toNat)
  case atStart => exact ⟨n, Nat.le_refl _, hn, rfl, hS⟩
  case round =>
    obtain ⟨k, hk1, hk2, rfl, hb⟩ := hrel
    have c0 := (HD.out wr hb).1
    clear c1
    by_cases hlt : k < N
    · have k0 : (0 : Int) ≤ (k : Int) := by omega
      have k1 : (k : Int) < (N : Int) := by omega
      have k2 : ((k : Int)).toNat = k := by omega
      obtain ⟨y, hy⟩ : ∃ y, y = bh k := ⟨_, rfl⟩
      have hC := HC.out k hk1 hlt
      rw [← hy] at hC
      have HCk : Hid _ := hC
      have QM : Hid (∀ x, Calls Tryd.prog 67 #[.int .i64 (k : Int)] x fun e w' => e = .returned (.int .u8 (y : Int)) ∧ x = w') := fun x => by rw [hy]; exact mark_any k x (by omega)
      have hq : ((y : Int) != (y : Int)) = false := by simp
      clear hC hy
      go_wp2
      refine MixH.start (fun x => Below w.heap.size w x) (by kernel_rfl) ?_
      obtain ⟨wB, hwB⟩ : ∃ wB, wB = wr.drew := ⟨_, rfl⟩
      clear hS
      have hS : Below w.heap.size w wB := by rw [hwB]; exact hb.drew
      rw [← hwB]
      clear hwB hb c0
      refine MixH.takes [true, true, true, false, true, false, false, true] 5 (by kernel_rfl) (by kernel_rfl) (by decide) (by kernel_rfl) hS (fun K hK => ?_)
      simp only [Mix.pick]
      repeat (go_big_quiet_step (fail))
      refine wpQuiet_nil (hK _ ?_)
      clear hK K
      refine MixH.take 4 3 _ (.slice (some ⟨g, 0, none⟩) N N) rfl (by kernel_rfl) (by kernel_rfl) (by kernel_rfl) (by kernel_rfl) (yields_bytes (.tmp 42) rfl D 0 (.slice (some ⟨g, 0, none⟩) N N) rfl rfl (fun x h => (HD.out x h).1)) hS (fun a' ha => ?_)
      simp only [Act.put, List.setIfInBounds_toArray, List.set_cons_succ, List.set_cons_zero] at ha
      subst ha
      refine MixH.takes [false, false, false, false, false, true] 3 (by kernel_rfl) (by kernel_rfl) (by decide) (by kernel_rfl) hS (fun K hK => ?_)
      simp only [Mix.pick]
      repeat (go_big_quiet_step (fail))
      refine wpQuiet_nil (hK _ ?_)
      clear hK K
      refine MixH.take 2 6 _ (.int .u8 (y : Int)) rfl (by kernel_rfl) (by kernel_rfl) (by kernel_rfl) (by kernel_rfl) (yields_u8 (.tmp 45) rfl g k (.int .u8 (y : Int)) rfl rfl (fun x h => HCk.out x h)) hS (fun a' ha => ?_)
      simp only [Act.put, List.setIfInBounds_toArray, List.set_cons_succ, List.set_cons_zero] at ha
      subst ha
      refine MixH.one [false, false, false, false, false, false, false, false, true] 1 8 _ rfl rfl (by kernel_rfl) (by kernel_rfl) (fun K hK => ?_)
      simp only [Mix.pick]
      go_wp2_with fail
      refine Calls.mono (QM.out wB) ?_
      rintro e wN ⟨rfl, rfl⟩
      clear QM
      go_wp2
      refine ⟨rfl, hK _ _ hS ?_⟩
      clear hK K
      refine MixH.takes [false, false, false, false, false, false, false, false, false, true] 0 (by kernel_rfl) (by kernel_rfl) (by decide) (by kernel_rfl) hS (fun K hK => ?_)
      simp only [Mix.pick]
      repeat (go_big_quiet_step (fail))
      refine wpQuiet_nil (hK _ ?_)
      clear hK K
      refine MixH.done (by kernel_rfl) ?_
      go_wp2
      go_roundw
      case rel => exact ⟨k + 1, by omega, by omega, by go_num, hS⟩
      case measure => simp [intOf]; omega
    · have hni : ¬ ((k : Int) < (N : Int)) := by omega
      clear hlt
      go_wp2
      go_ret
      exact ⟨rfl, hb⟩
end Go.Proofs.YtdinhgfkpjaipaaDoor.Dk
namespace Go.Proofs.YtdinhgfkpjaipaaDoor.Dk
open Go.RowKit

theorem DeskAt.set {w : World} {B D N n g : Nat} {xs : List Int} (h : DeskAt w B D (some ⟨g, 0, none⟩) N n xs) (k : Nat) (hk : k < N) (y : Int) : DeskAt (w.setCell ⟨g, k, none⟩ (.int .u8 y)) B D (some ⟨g, 0, none⟩) N n (xs.set k y) ∧ Ch (fun q => q = g) w (w.setCell ⟨g, k, none⟩ (.int .u8 y)) := by
  obtain ⟨g2, hg2, z2, _, _, NX⟩ := xor_step h.own k hk
  have e2 : g2 = g := by simpa using hg2.symm
  subst e2
  obtain ⟨n1, n2⟩ := NX (.int .u8 y) y rfl
  have nD := h.nD _ rfl
  exact ⟨⟨n2.cell h.c0 (fun e => nD e.symm), n2.cell h.c1 (fun e => nD e.symm), fun j => (n2.frozen (p := ⟨D, j, none⟩) (World.block_lt_of_cell? w ⟨D, 0, none⟩ h.c0) (fun e => nD e.symm)).trans (h.fz j), n1, h.nD, h.hD, h.hN⟩, n2⟩
/-- the room's first k cells bear their marks -/
structure Ld (w wr : World) (B D : Nat) (a : Option Addr) (g M n k : Nat) : Prop where
  at_ : ∃ ys : List Int, DeskAt wr B D (some ⟨g, 0, none⟩) M n ys ∧ ∀ j, j < k → ys[j]? = some ((bh j : Nat) : Int)
  ch : Ch (dB D a) w wr
  old : dB D a g ∨ w.heap.size ≤ g
theorem Ld.drew {w wr : World} {B D : Nat} {a : Option Addr} {g M n k : Nat} (h : Ld w wr B D a g M n k) : Ld w wr.drew B D a g M n k := by
  obtain ⟨ys, h1, h2⟩ := h.at_
  exact ⟨⟨ys, h1.below (Below.refl _ _).drew, h2⟩, h.ch.drew, h.old⟩
theorem Ld.c0 {w wr : World} {B D : Nat} {a : Option Addr} {g M n k : Nat} (h : Ld w wr B D a g M n k) : wr.cell? ⟨D, 0, none⟩ = some (.slice (some ⟨g, 0, none⟩) M M) := by
  obtain ⟨ys, h1, _⟩ := h.at_; exact h1.c0
theorem Ld.next {w wr : World} {B D : Nat} {a : Option Addr} {g M n k : Nat} (h : Ld w wr B D a g M n k) (hk : k < M) : (∃ z : Int, wr.cell? ⟨g, k, none⟩ = some (.int .u8 z)) ∧ wr.frozen? ⟨g, k, none⟩ = false ∧ Ld w (wr.setCell ⟨g, k, none⟩ (.int .u8 ((bh k : Nat) : Int))) B D a g M n (k + 1) := by
  obtain ⟨ys, h1, h2⟩ := h.at_
  obtain ⟨g2, hg2, z2, cz, fz, _⟩ := xor_step h1.own k hk
  have e2 : g2 = g := by simpa using hg2.symm
  subst e2
  obtain ⟨n1, n2⟩ := h1.set k hk ((bh k : Nat) : Int)
  have hl : ys.length = M := by have := h1.own.1; simpa using this
  refine ⟨⟨z2, cz⟩, fz, ⟨_, n1, fun j hj => ?_⟩, ?_, h.old⟩
  · rcases Nat.lt_succ_iff_lt_or_eq.1 hj with e | e
    · rw [List.getElem?_set_ne (by omega)]; exact h2 j e
    · subst e; rw [List.getElem?_set_self (by omega)]
  · refine h.ch.trans n2 (fun x hx e => ?_)
    rcases h.old with o | o
    · rw [e]; exact o
    · omega
theorem Ld.all {w wr : World} {B D : Nat} {a : Option Addr} {g M n : Nat} (h : Ld w wr B D a g M n M) : DeskAt wr B D (some ⟨g, 0, none⟩) M n (toI ((List.range M).map bh)) := by
  obtain ⟨ys, h1, h2⟩ := h.at_
  have hl : ys.length = M := by have := h1.own.1; simpa using this
  have e : ys = toI ((List.range M).map bh) := by
    refine List.ext_getElem? (fun j => ?_)
    by_cases hj : j < M
    · rw [h2 j hj]; simp [toI, hj]
    · rw [List.getElem?_eq_none (by omega), List.getElem?_eq_none (by simp [toI]; omega)]
  rw [← e]; exact h1
/-- what Lend leaves -/
structure Lent (w w' : World) (B D : Nat) (a : Option Addr) (g M : Nat) (l : List Nat) : Prop where
  desk : DeskAt w' B D (some ⟨g, 0, none⟩) M l.length (toI (dk l M))
  ch : Ch (dB D a) w w'
  old : dB D a g ∨ w.heap.size ≤ g
  le : l.length ≤ M
  big : 70 ≤ M
theorem Lent.of {w wr w3 : World} {B D : Nat} {a : Option Addr} {g M n : Nat} {l : List Nat} (h : Ld w wr B D a g M n M) (hM : l.length ≤ M) (h70 : 70 ≤ M) (hg : w3.heap[g]? = some (.cells (splice ((toI ((List.range M).map bh)).map (Value.int .u8)) 0 ((toI l).map (Value.int .u8))).toArray 5 (0, 0))) (k : Ch (fun q => q = g) wr w3) :
    w3.cell? ⟨D, 0, none⟩ = some (.slice (some ⟨g, 0, none⟩) M M) ∧ w3.cell? ⟨D, 1, none⟩ = some (.int .i64 (n : Int)) ∧ w3.frozen? ⟨D, 1, none⟩ = false ∧ Lent w (w3.setCell ⟨D, 1, none⟩ (.int .i64 (l.length : Int))) B D a g M l := by
  have hA := h.all
  have nD := hA.nD _ rfl
  have hB : B ≤ g := (form0 hA.own).2.1
  have c0 := k.cell hA.c0 (fun e => nD e.symm)
  have c1 := k.cell hA.c1 (fun e => nD e.symm)
  have fz : ∀ j, w3.frozen? ⟨D, j, none⟩ = false := fun j => (k.frozen (p := ⟨D, j, none⟩) (World.block_lt_of_cell? _ ⟨D, 0, none⟩ hA.c0) (fun e => nD e.symm)).trans (hA.fz j)
  have hdl := dk_len l M hM
  have e : splice ((toI ((List.range M).map bh)).map (Value.int .u8)) 0 ((toI l).map (Value.int .u8)) = (toI (dk l M)).map (Value.int .u8) := by
    simp [splice, dk, toI]
  rw [e] at hg
  have own : w3.ownsRow B 5 1 (.slice (some ⟨g, 0, none⟩) M M) M ((toI (dk l M)).map (Value.int .u8)) := to_own hg hB (by simp [toI, hdl]) (by have := hA.hN; unfold maxLen; omega)
  have kS : Ch (fun q => q = D) w3 (w3.setCell ⟨D, 1, none⟩ (.int .i64 (l.length : Int))) := (Ch.refl _ _).set _ _ rfl
  refine ⟨c0, c1, fz 1, ⟨?_, World.cell?_setCell_same _ _ _ c1, fun j => ?_, ?_, hA.nD, hA.hD, hA.hN⟩, ?_, h.old, hM, h70⟩
  · rw [World.cell?_setCell_other _ _ _ _ (by simp)]; exact c0
  · rw [World.frozen?_setCell]; exact fz j
  · refine kS.owns own (fun q hq => ?_)
    have : g = q := by simpa [Value.ownBlock] using hq
    subst this
    exact nD
  · refine (h.ch.trans k (fun x hx e => ?_)).trans kS (fun x hx e => .inl e)
    rcases h.old with o | o
    · rw [e]; exact o
    · omega
theorem ld_new {w w1 : World} {B D : Nat} {a : Option Addr} {N n0 M : Nat} {xs : List Int} (h : DeskAt w B D a N n0 xs) (hB : B ≤ w.heap.size) (hM : M ≤ 2097664) (hgr : w.grownBy w1 none) (hown : w1.ownsRow w.heap.size 5 1 (.slice (some ⟨w.heap.size, 0, none⟩) M M) M (List.replicate M (.int .u8 0))) : Ld w (w1.setCell ⟨D, 0, none⟩ (.slice (some ⟨w.heap.size, 0, none⟩) M M)) B D a w.heap.size M n0 0 := by
  have hDl := World.block_lt_of_cell? w ⟨D, 0, none⟩ h.c0
  have c0 : w1.cell? ⟨D, 0, none⟩ = some (.slice a N N) := hgr.cell h.c0 (by simp)
  have c1 : w1.cell? ⟨D, 1, none⟩ = some (.int .i64 (n0 : Int)) := hgr.cell h.c1 (by simp)
  have fz : ∀ j, w1.frozen? ⟨D, j, none⟩ = false := fun j => by rw [World.frozen?_of_block (hgr.block D hDl (by simp))]; exact h.fz j
  have kS : Ch (fun q => q = D) w1 (w1.setCell ⟨D, 0, none⟩ (.slice (some ⟨w.heap.size, 0, none⟩) M M)) := (Ch.refl _ _).set _ _ rfl
  have own : w1.ownsRow B 5 1 (.slice (some ⟨w.heap.size, 0, none⟩) M M) M ((List.replicate M (0 : Int)).map (Value.int .u8)) := by
    rw [List.map_replicate]; exact owns_mono hown hB
  refine ⟨⟨List.replicate M 0, ⟨World.cell?_setCell_same _ _ _ c0, ?_, fun j => ?_, kS.owns own (fun q hq => ?_), fun g hg => ?_, h.hD, hM⟩, fun j hj => absurd hj (Nat.not_lt_zero _)⟩, ?_, .inr (Nat.le_refl _)⟩
  · rw [World.cell?_setCell_other _ _ _ _ (by simp)]; exact c1
  · rw [World.frozen?_setCell]; exact fz j
  · have : w.heap.size = q := by simpa [Value.ownBlock] using hq
    simp only at hDl
    omega
  · have : w.heap.size = g := by simpa using hg
    simp only at hDl
    omega
  · exact ((Ch.ofGrown hgr).mono (fun _ _ e => by cases e)).trans kS (fun x _ e => .inl e)

set_option maxRecDepth 100000 in
set_option maxHeartbeats 3200000 in
theorem lend_no (w : World) (B D : Nat) (a : Option Addr) (N n0 : Nat) (xs : List Int) (h : DeskAt w B D a N n0 xs) (ba : Option Addr) (bc : Nat) (l : List Nat) (hs : ∀ x, Below B w x → Seg .u8 x ba (toI l)) (hl : l.length ≤ 1048576) (hBw : B ≤ w.heap.size) (ht : 2 * l.length + 70 ≤ N) :
    Calls Tryd.prog 35 #[.pointer (some ⟨D, 0, none⟩), .slice ba l.length bc] w fun e w' => ∃ g M, e = .returned (.slice (some ⟨g, 0, none⟩) l.length M) ∧ Lent w w' B D a g M l := by
  have HS : Hid (∀ x, Below B w x → Seg .u8 x ba (toI l)) := hs
  obtain ⟨n, hn⟩ : ∃ n, n = l.length := ⟨_, rfl⟩
  have HN : Hid (l.length = n) := hn.symm
  have HB : Hid (∀ q, dB D a q → B ≤ q) := fun q hq => by
    rcases hq with e | ⟨y, e1, e2⟩
    · rw [e]; exact h.hD
    · rcases h.own.2 with ⟨e, _⟩ | ⟨g, cap, cur, e, hb, _⟩
      · rw [e1] at e; cases e
      · have e3 := (Value.slice.inj e).1
        rw [e1] at e3
        cases e3
        rw [← e2]; exact hb
  have hN := h.hN
  obtain ⟨g, rfl⟩ : ∃ g, a = some ⟨g, 0, none⟩ := by
    rcases h.own.2 with ⟨e, e0⟩ | ⟨g, cap, cur, e, _⟩
    · omega
    · exact ⟨g, (Value.slice.inj e).1⟩
  obtain ⟨M, hM⟩ : ∃ M, M = N := ⟨_, rfl⟩
  rw [← hM] at h ht hN
  rw [← hn] at ht hl ⊢
  obtain ⟨a, ha⟩ : ∃ a, a = (some ⟨g, 0, none⟩ : Option Addr) := ⟨_, rfl⟩
  have L0 : Hid (Ld w w B D a g M n0 0) := ⟨⟨xs, h, fun j hj => absurd hj (Nat.not_lt_zero _)⟩, Ch.refl _ _, by rw [ha]; exact .inl (.inr ⟨_, rfl, rfl⟩)⟩
  rw [← ha] at HB ⊢
  have c0 := h.c0
  have h70 : 70 ≤ M := by omega
  have hnM : n ≤ M := by omega
  have hd : ¬ ((M : Int) < 2 * (n : Int) + 70) := by omega
  have e1 : IntKind.i64.wrap (2 * (n : Int)) = 2 * (n : Int) := i64_mid _ (by omega) (by omega)
  have e2 : IntKind.i64.wrap (2 * (n : Int) + 70) = 2 * (n : Int) + 70 := i64_mid _ (by omega) (by omega)
  clear h hs hn hM ha
  go_enter Tryd.func35, Tryd.ntmps35
  go_wp2
  go_loopw [5] (fun ix wr => ∃ k : Nat, k ≤ M ∧ ix = .int .i64 k ∧ Hid (Ld w wr B D a g M n0 k)) (fun ix _ => M - (intOf ix).toNat)
  case atStart => exact ⟨0, Nat.zero_le _, rfl, L0⟩
  case round =>
    obtain ⟨k, hk, rfl, ST⟩ := hrel
    clear L0 c0
    have c0 := ST.out.c0
    by_cases hlt : k < M
    · have k0 : (0 : Int) ≤ (k : Int) := by omega
      have k1 : (k : Int) < (M : Int) := by omega
      have k2 : ((k : Int)).toNat = k := by omega
      obtain ⟨y, hy⟩ : ∃ y, y = bh k := ⟨_, rfl⟩
      have QM : Hid (∀ x, Calls Tryd.prog 67 #[.int .i64 (k : Int)] x fun e w' => e = .returned (.int .u8 (y : Int)) ∧ x = w') := fun x => by rw [hy]; exact mark_any k x (by omega)
      have HY : Hid (bh k = y) := hy.symm
      clear hy
      go_wp2
      refine MixH.start (fun x => x.cell? ⟨D, 0, none⟩ = some (.slice (some ⟨g, 0, none⟩) M M)) (by kernel_rfl) ?_
      obtain ⟨wA, hwA⟩ : ∃ wA, wA = wr.drew := ⟨_, rfl⟩
      have SA : Hid (Ld w wA B D a g M n0 k) := by rw [hwA]; exact ST.out.drew
      have hS := SA.out.c0
      rw [← hwA]
      clear hwA ST c0
      refine MixH.takes [true, true, true, false, true, true] 4 (by kernel_rfl) (by kernel_rfl) (by decide) (by kernel_rfl) hS (fun K hK => ?_)
      simp only [Mix.pick]
      repeat (go_big_quiet_step (fail))
      refine wpQuiet_nil (hK _ ?_)
      clear hK K
      refine MixH.take 3 3 _ (.slice (some ⟨g, 0, none⟩) M M) rfl (by kernel_rfl) (by kernel_rfl) (by kernel_rfl) (by kernel_rfl) (yields_bytes (.tmp 35) rfl D 0 (.slice (some ⟨g, 0, none⟩) M M) rfl rfl (fun _ h => h)) hS (fun a' ha => ?_)
      simp only [Act.put, List.setIfInBounds_toArray, List.set_cons_succ, List.set_cons_zero] at ha
      subst ha
      refine MixH.one [false, false, false, false, false, false, true] 2 6 _ rfl rfl (by kernel_rfl) (by kernel_rfl) (fun K hK => ?_)
      simp only [Mix.pick]
      go_wp2_with fail
      refine Calls.mono (QM.out wA) ?_
      rintro e wN ⟨rfl, rfl⟩
      clear QM
      go_wp2
      refine ⟨rfl, hK _ _ hS ?_⟩
      clear hK K
      refine MixH.takes [false, false, false, false, false, false, false, true] 1 (by kernel_rfl) (by kernel_rfl) (by decide) (by kernel_rfl) hS (fun K hK => ?_)
      simp only [Mix.pick]
      repeat (go_big_quiet_step (fail))
      refine wpQuiet_nil (hK _ ?_)
      clear hK K
      refine MixH.one [false, false, false, false, false, false, false, false, true] 0 8 _ rfl rfl (by kernel_rfl) (by kernel_rfl) (fun K hK => ?_)
      simp only [Mix.pick]
      obtain ⟨⟨z, cz⟩, fz, TNN⟩ := SA.out.next hlt
      rw [HY.out] at TNN
      have TN : Hid (Ld w (wA.setCell ⟨g, k, none⟩ (.int .u8 (y : Int))) B D a g M n0 (k + 1)) := TNN
      clear hS
      have hS := TNN.c0
      clear TNN
      go_wp2
      refine ⟨rfl, hK _ _ hS ?_⟩
      clear hK K
      refine MixH.done (by kernel_rfl) ?_
      go_wp2
      go_roundw
      case rel => exact ⟨k + 1, by omega, by go_num, TN⟩
      case measure => simp [intOf]; omega
    · have hni : ¬ ((k : Int) < (M : Int)) := by omega
      have hkM : k = M := by omega
      clear hlt
      have HLD : Hid (Ld w wr B D a g M n0 M) := by have e := ST.out; rw [hkM] at e; exact e
      have hA := HLD.out.all
      have hg2 := (form0 hA.own).1
      have hSG := HS.out wr (HLD.out.ch.below HB.out hBw)
      obtain ⟨cur, hcur⟩ : ∃ cur, cur = (toI ((List.range M).map bh)).map (Value.int .u8) := ⟨_, rfl⟩
      obtain ⟨cs, hcs⟩ : ∃ cs, cs = (toI l).map (Value.int .u8) := ⟨_, rfl⟩
      rw [← hcur] at hg2
      have HSC : Hid (0 < cs.length → ∃ ad, ba = some ad ∧ ∀ j v, cs[j]? = some v → wr.cell? (ad.add j) = some v) := by rw [hcs]; exact seg_cells hSG
      have HCL : Hid (cs.length = n) := by rw [hcs, ← HN.out]; show _ = _; simp [toI]
      have HUL : Hid (cur.length = M) := by rw [hcur]; show _ = _; simp [toI]
      have HC1 : Hid (∀ v ∈ cs, v.oneCell' = true) := by
        rw [hcs]; intro v hv
        obtain ⟨z, _, rfl⟩ := List.mem_map.1 hv
        rfl
      have HCU : Hid (cur = (toI ((List.range M).map bh)).map (Value.int .u8)) := hcur
      have HCS : Hid (cs = (toI l).map (Value.int .u8)) := hcs
      clear hA hSG hcur hcs hkM ST
      go_wp2_with (first | (refine wpList_copy_ch rfl _ _ 26 26 rfl 5 Tryd.underlying26 Tryd.sizeByte _ _ _ _ _ _ rfl rfl g 0 cur 5 hg2 cs (by rw [HCL.out]; show n = min n M; omega) (fun h0 => ⟨rfl, HSC.out h0⟩) (by rw [HCL.out, HUL.out]; omega) HC1.out ?_))
      intro w3 HG3 k5
      have hg3 := HG3.out
      rw [HCU.out, HCS.out] at hg3
      obtain ⟨d0, d1, dz, LT⟩ := Lent.of HLD.out (by rw [HN.out]; omega) h70 hg3 k5
      rw [HN.out] at LT
      have HLT : Hid (Lent w (w3.setCell ⟨D, 1, none⟩ (.int .i64 (n : Int))) B D a g M l) := LT
      have e0 := LT.desk.c0
      clear LT hg3 k5 HG3 hg2 c0
      go_wp2
      go_ret
      exact ⟨g, M, rfl, HLT.out⟩

set_option maxRecDepth 100000 in
set_option maxHeartbeats 3200000 in
theorem lend_yes (w : World) (B D : Nat) (a : Option Addr) (N n0 : Nat) (xs : List Int) (h : DeskAt w B D a N n0 xs) (ba : Option Addr) (bc : Nat) (l : List Nat) (hs : ∀ x, Below B w x → Seg .u8 x ba (toI l)) (hl : l.length ≤ 1048576) (hBw : B ≤ w.heap.size) (ht : N < 2 * l.length + 70) :
    Calls Tryd.prog 35 #[.pointer (some ⟨D, 0, none⟩), .slice ba l.length bc] w fun e w' => ∃ g M, e = .returned (.slice (some ⟨g, 0, none⟩) l.length M) ∧ Lent w w' B D a g M l := by
  have HS : Hid (∀ x, Below B w x → Seg .u8 x ba (toI l)) := hs
  obtain ⟨n, hn⟩ : ∃ n, n = l.length := ⟨_, rfl⟩
  have HN : Hid (l.length = n) := hn.symm
  have HB : Hid (∀ q, dB D a q → B ≤ q) := fun q hq => by
    rcases hq with e | ⟨y, e1, e2⟩
    · rw [e]; exact h.hD
    · rcases h.own.2 with ⟨e, _⟩ | ⟨g, cap, cur, e, hb, _⟩
      · rw [e1] at e; cases e
      · have e3 := (Value.slice.inj e).1
        rw [e1] at e3
        cases e3
        rw [← e2]; exact hb
  rw [← hn] at ht hl ⊢
  obtain ⟨M, hM⟩ : ∃ M, M = 2 * n + 512 := ⟨_, rfl⟩
  obtain ⟨g, hg⟩ : ∃ g, g = w.heap.size := ⟨_, rfl⟩
  obtain ⟨i0, hii, hz0, hz1, hz2⟩ := info_parts Tryd.infoByte
  have h70 : 70 ≤ M := by omega
  have hnM : n ≤ M := by omega
  have c0 := h.c0
  have f0 := h.fz 0
  have hd : (N : Int) < 2 * (n : Int) + 70 := by omega
  have e1 : IntKind.i64.wrap (2 * (n : Int)) = 2 * (n : Int) := i64_mid _ (by omega) (by omega)
  have e2 : IntKind.i64.wrap (2 * (n : Int) + 70) = 2 * (n : Int) + 70 := i64_mid _ (by omega) (by omega)
  have e3 : IntKind.i64.wrap (2 * (n : Int) + 512) = (M : Int) := by rw [i64_mid _ (by omega) (by omega)]; omega
  have HH : Hid (DeskAt w B D a N n0 xs) := h
  have HM : Hid (M = 2 * n + 512) := hM
  have HG : Hid (g = w.heap.size) := hg
  have hM2 : M ≤ 2097664 := by omega
  clear h hs hn hM
  go_enter Tryd.func35, Tryd.ntmps35
  go_wp2_with (first | (at_make; refine wpList_make_full _ rfl _ _ 26 rfl w.heap.size 5 i0 (.int .u8 0) 1 Tryd.underlying26 hii hz0 hz1 .i64 .i64 _ _ M rfl rfl rfl rfl (by rw [hz2]; omega) (by unfold maxLen; omega) (Nat.le_refl _) ?_))
  intro w1 hown hgr
  rw [toList_madeCells_one] at hown
  have hDl := World.block_lt_of_cell? w ⟨D, 0, none⟩ c0
  have c1' : w1.cell? ⟨D, 0, none⟩ = some (.slice a N N) := hgr.cell c0 (by simp)
  have f1' : w1.frozen? ⟨D, 0, none⟩ = false := by rw [World.frozen?_of_block (hgr.block D hDl (by simp))]; exact f0
  have L0 : Hid (Ld w (w1.setCell ⟨D, 0, none⟩ (.slice (some ⟨w.heap.size, 0, none⟩) M M)) B D a w.heap.size M n0 0) := ld_new HH.out hBw hM2 hgr hown
  clear c0 f0
  have c0 := L0.out.c0
  rw [← hg] at L0 c0 ⊢
  clear hown hgr hg hDl
  go_wp2
  go_loopw [5] (fun ix wr => ∃ k : Nat, k ≤ M ∧ ix = .int .i64 k ∧ Hid (Ld w wr B D a g M n0 k)) (fun ix _ => M - (intOf ix).toNat)
  case atStart => exact ⟨0, Nat.zero_le _, rfl, L0⟩
  case round =>
    obtain ⟨k, hk, rfl, ST⟩ := hrel
    clear L0 c0
    have c0 := ST.out.c0
    by_cases hlt : k < M
    · have k0 : (0 : Int) ≤ (k : Int) := by omega
      have k1 : (k : Int) < (M : Int) := by omega
      have k2 : ((k : Int)).toNat = k := by omega
      obtain ⟨y, hy⟩ : ∃ y, y = bh k := ⟨_, rfl⟩
      have QM : Hid (∀ x, Calls Tryd.prog 67 #[.int .i64 (k : Int)] x fun e w' => e = .returned (.int .u8 (y : Int)) ∧ x = w') := fun x => by rw [hy]; exact mark_any k x (by omega)
      have HY : Hid (bh k = y) := hy.symm
      clear hy
      go_wp2
      refine MixH.start (fun x => x.cell? ⟨D, 0, none⟩ = some (.slice (some ⟨g, 0, none⟩) M M)) (by kernel_rfl) ?_
      obtain ⟨wA, hwA⟩ : ∃ wA, wA = wr.drew := ⟨_, rfl⟩
      have SA : Hid (Ld w wA B D a g M n0 k) := by rw [hwA]; exact ST.out.drew
      have hS := SA.out.c0
      rw [← hwA]
      clear hwA ST c0
      refine MixH.takes [true, true, true, false, true, true] 4 (by kernel_rfl) (by kernel_rfl) (by decide) (by kernel_rfl) hS (fun K hK => ?_)
      simp only [Mix.pick]
      repeat (go_big_quiet_step (fail))
      refine wpQuiet_nil (hK _ ?_)
      clear hK K
      refine MixH.take 3 3 _ (.slice (some ⟨g, 0, none⟩) M M) rfl (by kernel_rfl) (by kernel_rfl) (by kernel_rfl) (by kernel_rfl) (yields_bytes (.tmp 35) rfl D 0 (.slice (some ⟨g, 0, none⟩) M M) rfl rfl (fun _ h => h)) hS (fun a' ha => ?_)
      simp only [Act.put, List.setIfInBounds_toArray, List.set_cons_succ, List.set_cons_zero] at ha
      subst ha
      refine MixH.one [false, false, false, false, false, false, true] 2 6 _ rfl rfl (by kernel_rfl) (by kernel_rfl) (fun K hK => ?_)
      simp only [Mix.pick]
      go_wp2_with fail
      refine Calls.mono (QM.out wA) ?_
      rintro e wN ⟨rfl, rfl⟩
      clear QM
      go_wp2
      refine ⟨rfl, hK _ _ hS ?_⟩
      clear hK K
      refine MixH.takes [false, false, false, false, false, false, false, true] 1 (by kernel_rfl) (by kernel_rfl) (by decide) (by kernel_rfl) hS (fun K hK => ?_)
      simp only [Mix.pick]
      repeat (go_big_quiet_step (fail))
      refine wpQuiet_nil (hK _ ?_)
      clear hK K
      refine MixH.one [false, false, false, false, false, false, false, false, true] 0 8 _ rfl rfl (by kernel_rfl) (by kernel_rfl) (fun K hK => ?_)
      simp only [Mix.pick]
      obtain ⟨⟨z, cz⟩, fz, TNN⟩ := SA.out.next hlt
      rw [HY.out] at TNN
      have TN : Hid (Ld w (wA.setCell ⟨g, k, none⟩ (.int .u8 (y : Int))) B D a g M n0 (k + 1)) := TNN
      clear hS
      have hS := TNN.c0
      clear TNN
      go_wp2
      refine ⟨rfl, hK _ _ hS ?_⟩
      clear hK K
      refine MixH.done (by kernel_rfl) ?_
      go_wp2
      go_roundw
      case rel => exact ⟨k + 1, by omega, by go_num, TN⟩
      case measure => simp [intOf]; omega
    · have hni : ¬ ((k : Int) < (M : Int)) := by omega
      have hkM : k = M := by omega
      clear hlt
      have HLD : Hid (Ld w wr B D a g M n0 M) := by have e := ST.out; rw [hkM] at e; exact e
      have hA := HLD.out.all
      have hg2 := (form0 hA.own).1
      have hSG := HS.out wr (HLD.out.ch.below HB.out hBw)
      obtain ⟨cur, hcur⟩ : ∃ cur, cur = (toI ((List.range M).map bh)).map (Value.int .u8) := ⟨_, rfl⟩
      obtain ⟨cs, hcs⟩ : ∃ cs, cs = (toI l).map (Value.int .u8) := ⟨_, rfl⟩
      rw [← hcur] at hg2
      have HSC : Hid (0 < cs.length → ∃ ad, ba = some ad ∧ ∀ j v, cs[j]? = some v → wr.cell? (ad.add j) = some v) := by rw [hcs]; exact seg_cells hSG
      have HCL : Hid (cs.length = n) := by rw [hcs, ← HN.out]; show _ = _; simp [toI]
      have HUL : Hid (cur.length = M) := by rw [hcur]; show _ = _; simp [toI]
      have HC1 : Hid (∀ v ∈ cs, v.oneCell' = true) := by
        rw [hcs]; intro v hv
        obtain ⟨z, _, rfl⟩ := List.mem_map.1 hv
        rfl
      have HCU : Hid (cur = (toI ((List.range M).map bh)).map (Value.int .u8)) := hcur
      have HCS : Hid (cs = (toI l).map (Value.int .u8)) := hcs
      clear hA hSG hcur hcs hkM ST
      go_wp2_with (first | (refine wpList_copy_ch rfl _ _ 26 26 rfl 5 Tryd.underlying26 Tryd.sizeByte _ _ _ _ _ _ rfl rfl g 0 cur 5 hg2 cs (by rw [HCL.out]; show n = min n M; omega) (fun h0 => ⟨rfl, HSC.out h0⟩) (by rw [HCL.out, HUL.out]; omega) HC1.out ?_))
      intro w3 HG3 k5
      have hg3 := HG3.out
      rw [HCU.out, HCS.out] at hg3
      obtain ⟨d0, d1, dz, LT⟩ := Lent.of HLD.out (by rw [HN.out]; omega) h70 hg3 k5
      rw [HN.out] at LT
      have HLT : Hid (Lent w (w3.setCell ⟨D, 1, none⟩ (.int .i64 (n : Int))) B D a g M l) := LT
      have e0 := LT.desk.c0
      clear LT hg3 k5 HG3 hg2 c0
      go_wp2
      go_ret
      exact ⟨g, M, rfl, HLT.out⟩

theorem lend_any (w : World) (B D : Nat) (a : Option Addr) (N n0 : Nat) (xs : List Int) (h : DeskAt w B D a N n0 xs) (ba : Option Addr) (bc : Nat) (l : List Nat) (hs : ∀ x, Below B w x → Seg .u8 x ba (toI l)) (hl : l.length ≤ 1048576) (hBw : B ≤ w.heap.size) :
    Calls Tryd.prog 35 #[.pointer (some ⟨D, 0, none⟩), .slice ba l.length bc] w fun e w' => ∃ g M, e = .returned (.slice (some ⟨g, 0, none⟩) l.length M) ∧ Lent w w' B D a g M l := by
  rcases Nat.lt_or_ge N (2 * l.length + 70) with e | e
  · exact lend_yes w B D a N n0 xs h ba bc l hs hl hBw e
  · exact lend_no w B D a N n0 xs h ba bc l hs hl hBw e
end Go.Proofs.YtdinhgfkpjaipaaDoor.Dk
namespace Go.Proofs.YtdinhgfkpjaipaaDoor.Bk
open Go.RowKit

theorem infoBytes : (Tryd.prog.info? 26).map (fun i => (i.zero, i.size, i.bytes)) = some (some (.slice none 0 0), 1, 24) := by kernel_rfl
theorem seg_at {k : IntKind} {w : World} {a : Option Addr} {l : List Nat} (h : Seg k w a (toI l)) (i : Nat) (hi : i < l.length) : ∃ b off, a = some ⟨b, off, none⟩ ∧ ∀ j, j < l.length → w.cell? ⟨b, off + j, none⟩ = some (.int k ((l.getD j 0 : Nat) : Int)) := by
  rcases h with hnil | ⟨b, off, rfl, hc⟩
  · have := congrArg List.length hnil; rw [toI_len] at this; simp at this; subst this; simp at hi
  · refine ⟨b, off, rfl, fun j hj => ?_⟩
    have := hc j (by rw [toI_len]; exact hj)
    rwa [toI_getD] at this
theorem owns_seg_at {w : World} {base : Nat} {e : TypeId} {g : Option Addr} {n c : Nat} {k : IntKind} {zs : List Int} (h : w.ownsRow base e 1 (.slice g n c) n (zs.map (Value.int k))) : Seg k w g zs ∧ n ≤ c ∧ c ≤ 9223372036854775807 := by
  obtain ⟨a, c', e1, hs, _, h1, h2⟩ := owns_seg h
  simp only [Value.slice.injEq, true_and] at e1
  rw [e1.1, e1.2]
  exact ⟨hs, h1, by unfold maxLen at h2; exact h2⟩
/-- bytes of the call's own -/
abbrev OwnB (w : World) (B : Nat) (v : Value) (n : Nat) (l : List Nat) : Prop := w.ownsRow B 5 1 v n ((toI l).map (Value.int .u8))
theorem OwnB.len {w : World} {B : Nat} {v : Value} {n : Nat} {l : List Nat} (h : OwnB w B v n l) : l.length = n := by have := h.1; simpa [toI] using this
theorem below_grown {A B : World} (h : Below A.heap.size A B) (r : Option Nat) : A.grownBy B r := ⟨h.os, h.tape, h.output, h.size, fun k hk _ => h.block k hk⟩
theorem OwnB.below {A C : World} {B : Nat} {v : Value} {n : Nat} {l : List Nat} (h : OwnB A B v n l) (hB : Below A.heap.size A C) : OwnB C B v n l :=
  h.kept (below_grown hB none) (by cases hv : v.ownBlock <;> simp)
theorem own_form {w : World} {B : Nat} {v : Value} {n : Nat} {l : List Nat} (h : OwnB w B v n l) (hn : 0 < n) : ∃ g c, v = .slice (some ⟨g, 0, none⟩) n c ∧ B ≤ g ∧ g < w.heap.size := by
  rcases h.2 with ⟨_, h0⟩ | ⟨g, cap, cur, rfl, hg, hh, r⟩
  · omega
  · exact ⟨g, cap, rfl, hg, by rcases Nat.lt_or_ge g w.heap.size with h | h; exact h; rw [Array.getElem?_eq_none h] at hh; cases hh⟩
theorem news_at (w : World) (t : TypeId) (xs : List Value) : ∀ j u, xs[j]? = some u → (w.alloc (.cells xs.toArray t)).cell? ((⟨w.heap.size, 0, none⟩ : Addr).add j) = some u := by
  intro j u hu
  rw [Addr.add_lit, Nat.zero_add, World.cell?_alloc_at _ _ _ _ rfl]
  simpa using hu
def mark (i : Nat) : Nat := 1 + i % 251
def rp (n x : Nat) : List Nat := List.replicate n x
def full (c k : Nat) (l : List Nat) : List Nat := List.replicate k c ++ l.drop k
theorem full_set (c k : Nat) (l : List Nat) (h : k < l.length) : (full c k l).set k c = full c (k + 1) l := by
  unfold full
  rw [List.set_append_right _ _ (by simp), List.length_replicate, Nat.sub_self, List.drop_eq_getElem_cons h, List.set_cons_zero, List.replicate_succ']
  simp
theorem full_all (c n : Nat) (l : List Nat) (h : l.length = n) : full c n l = rp n c := by subst h; simp [full, rp]
theorem full_zero (c : Nat) (l : List Nat) : full c 0 l = l := by simp [full]
theorem rp_succ (n x : Nat) : (toI (rp n x)).map (Value.int .u8) ++ [Value.int .u8 (x : Int)] = (toI (rp (n + 1) x)).map (Value.int .u8) := by
  unfold rp; rw [List.replicate_succ']; simp [toI]
/-- a row of bytes that can be read, full of one mark -/
def Rd (w : World) (a : Option Addr) (n x : Nat) : Prop := n = 0 ∨ ∃ g, a = some ⟨g, 0, none⟩ ∧ (∃ c, w.heap[g]? = some (.cells c 5 (0, 0))) ∧ ∀ k, k < n → w.cell? ⟨g, k, none⟩ = some (.int .u8 (x : Int))
theorem Rd.keep {w w' : World} {a : Option Addr} {n x : Nat} {r : Option Nat} (h : Rd w a n x) (hg : w.grownBy w' r) (hne : ∀ g, a = some ⟨g, 0, none⟩ → some g ≠ r) : Rd w' a n x := by
  rcases h with h | ⟨g, rfl, ⟨c, hc⟩, h⟩
  · exact .inl h
  · refine .inr ⟨g, rfl, ⟨c, ?_⟩, fun k hk => hg.cell (h k hk) (hne g rfl)⟩
    rw [hg.block g (Array.getElem?_eq_some_iff.1 hc).1 (hne g rfl)]
    exact hc
theorem Rd.of {w : World} {B : Nat} {a a' : Option Addr} {n n' c c' x : Nat} (h : OwnB w B (.slice a' n' c') n' (rp n' x)) (hn : n ≤ n') (ha : (Value.slice a n c).ownBlock = (Value.slice a' n' c').ownBlock) (hz : ∀ y, a = some y → y = ⟨y.block, 0, none⟩) : Rd w a n x := by
  by_cases h0 : n = 0
  · exact .inl h0
  · rcases h.2 with ⟨_, h1⟩ | ⟨g, cap, cur, hv, hg, hh, r⟩
    · omega
    · have hv' := hv
      simp only [Value.slice.injEq, true_and] at hv
      obtain ⟨rfl, rfl⟩ := hv
      cases a with
      | none => simp [Value.ownBlock] at ha
      | some y =>
        have := hz y rfl
        simp only [Value.ownBlock, Option.some.injEq] at ha
        rw [ha] at this
        subst this
        refine .inr ⟨g, rfl, ⟨cur, hh⟩, fun k hk => ?_⟩
        rw [h.cellAt k (by omega)]
        simp [toI, rp, show k < n' by omega]
theorem Rd.seg {w : World} {a : Option Addr} {n x : Nat} (h : Rd w a n x) : Seg .u8 w a (toI (rp n x)) := by
  rcases h with rfl | ⟨g, rfl, _, h⟩
  · exact .inl rfl
  · refine .inr ⟨g, 0, rfl, fun k hk => ?_⟩
    have hk' : k < n := by simpa [toI, rp] using hk
    rw [Nat.zero_add, h k hk']
    simp [toI, rp, List.getD, hk']
abbrev vv (A : Nat → Option Addr) (C M : Nat → Nat) (j : Nat) : Value := .slice (A j) (M j) (C j)
/-- the lists' blocks -/
def vB (A : Nat → Option Addr) (C M : Nat → Nat) (n q : Nat) : Prop := ∃ j, j < n ∧ (vv A C M j).ownBlock = some q
/-- what does not change: the lists lie apart, among the call's own, at the head of their blocks -/
structure Still (n lb B : Nat) (A : Nat → Option Addr) (C M : Nat → Nat) (w0 : World) (K : Nat) : Prop where
  nK : ∀ j, j < n → (vv A C M j).ownBlock ≠ some K
  lK : K < w0.heap.size
  dis : ∀ i j, i < n → j < n → i ≠ j → (vv A C M i).ownBlock = none ∨ (vv A C M i).ownBlock ≠ (vv A C M j).ownBlock
  nlb : ∀ j, j < n → (vv A C M j).ownBlock ≠ some lb
  head : ∀ j, j < n → ∀ y, A j = some y → y = ⟨y.block, 0, none⟩
  base : ∀ j, j < n → ∀ q, (vv A C M j).ownBlock = some q → B ≤ q ∧ q < w0.heap.size
  lbs : lb < w0.heap.size
  size : B ≤ w0.heap.size
theorem own_head {w : World} {B n c : Nat} {a : Option Addr} {l : List Nat} (h : OwnB w B (.slice a n c) n l) : ∀ y, a = some y → y = ⟨y.block, 0, none⟩ := by
  intro y hy
  rcases h.2 with ⟨h1, _⟩ | ⟨g, cap, cur, h1, _⟩
  · simp only [Value.slice.injEq] at h1; rw [hy] at h1; simp at h1
  · simp only [Value.slice.injEq] at h1; rw [hy] at h1; simp only [Option.some.injEq] at h1; rw [h1.1]
/-- the first loop: each list holds F -/
structure L1 (K : Nat) (kv : Value) (n lb off B : Nat) (A : Nat → Option Addr) (C M : Nat → Nat) (F : Nat → List Nat) (w0 w : World) : Prop where
  kc : w.cell? ⟨K, 0, none⟩ = some kv
  row : ∀ j, j < n → w.cell? ⟨lb, off + j, none⟩ = some (vv A C M j)
  own : ∀ j, j < n → OwnB w B (vv A C M j) (M j) (F j)
  bel : Below B w0 w
  ch : Ch (vB A C M n) w0 w
theorem L1.step {K : Nat} {kv : Value} {n lb off B : Nat} {A : Nat → Option Addr} {C M : Nat → Nat} {F G : Nat → List Nat} {w0 w w' : World} (h : L1 K kv n lb off B A C M F w0 w) (hs : Still n lb B A C M w0 K) {i : Nat} (hi : i < n)
    (ho : OwnB w' B (vv A C M i) (M i) (G i)) (hg : w.grownBy w' (vv A C M i).ownBlock) (hG : ∀ j, j ≠ i → G j = F j) : L1 K kv n lb off B A C M G w0 w' := by
  refine ⟨hg.cell h.kc (fun e => hs.nK i hi e.symm), fun j hj => hg.cell (h.row j hj) (fun e => hs.nlb i hi e.symm), fun j hj => ?_, h.bel.grown hg (Nat.le_trans hs.size h.bel.size) (fun k hk => (hs.base i hi k hk).1), h.ch.trans (Ch.ofGrown hg) (fun _ _ e => ⟨i, hi, e⟩)⟩
  by_cases e : j = i
  · subst e; exact ho
  · rw [hG j e]; exact (h.own j hj).kept hg (hs.dis j i hj hi e)
/-- .. of those ahead of i, marked -/
def mkd (M : Nat → Nat) (L : Nat → List Nat) (i j : Nat) : List Nat := if j < i then rp (M j) (mark j) else L j

/-- the second loop: the lists from i on, the longer ones ahead of i -/
structure L2 (K : Nat) (kv : Value) (n lb off B : Nat) (A : Nat → Option Addr) (C M : Nat → Nat) (i : Nat) (G : Nat → Value) (w0 w : World) : Prop where
  kc : w.cell? ⟨K, 0, none⟩ = some kv
  row : ∀ j, j < n → w.cell? ⟨lb, off + j, none⟩ = some (vv A C M j)
  own : ∀ j, i ≤ j → j < n → OwnB w B (vv A C M j) (M j) (rp (M j) (mark j))
  lon : ∀ j, j < i → OwnB w B (G j) (2 * M j + 70) (rp (2 * M j + 70) (mark j))
  rd : ∀ j, j < i → Rd w (A j) (M j) (mark j)
  sep : ∀ j k, j < i → i ≤ k → k < n → (G j).ownBlock = none ∨ (G j).ownBlock ≠ (vv A C M k).ownBlock
  bel : Below B w0 w
  ch : Ch (vB A C M n) w0 w
theorem L2.step {K : Nat} {kv : Value} {n lb off B : Nat} {A : Nat → Option Addr} {C M : Nat → Nat} {i : Nat} {G : Nat → Value} {w0 w w' : World} (h : L2 K kv n lb off B A C M i G w0 w) (hs : Still n lb B A C M w0 K) (hi : i < n) (g : Value)
    (ho : OwnB w' B g (2 * M i + 70) (rp (2 * M i + 70) (mark i))) (hr : Rd w' (A i) (M i) (mark i)) (hg : w.grownBy w' (vv A C M i).ownBlock)
    (hp : g.ownBlock = (vv A C M i).ownBlock ∨ ∀ q, g.ownBlock = some q → w.heap.size ≤ q) : L2 K kv n lb off B A C M (i + 1) (fun j => if j = i then g else G j) w0 w' := by
  have hsz := h.bel.size
  refine ⟨hg.cell h.kc (fun e => hs.nK i hi e.symm), fun j hj => hg.cell (h.row j hj) (fun e => hs.nlb i hi e.symm), fun j h1 hj => (h.own j (by omega) hj).kept hg (hs.dis j i hj hi (by omega)), fun j hj => ?_, fun j hj => ?_, fun j k hj h1 hk => ?_, h.bel.grown hg (Nat.le_trans hs.size hsz) (fun k hk => (hs.base i hi k hk).1), h.ch.trans (Ch.ofGrown hg) (fun _ _ e => ⟨i, hi, e⟩)⟩
  · by_cases e : j = i
    · subst e; simpa using ho
    · simp only [e, if_false]; exact (h.lon j (by omega)).kept hg (h.sep j i (by omega) (Nat.le_refl _) hi)
  · by_cases e : j = i
    · subst e; exact hr
    · refine (h.rd j (by omega)).keep hg (fun q hq => ?_)
      rcases hs.dis j i (by omega) hi e with h1 | h1
      · simp [vv, hq, Value.ownBlock] at h1
      · simpa [vv, hq, Value.ownBlock] using h1
  · by_cases e : j = i
    · subst e
      simp only [if_true]
      rcases hp with hp | hp
      · rw [hp]; exact hs.dis j k hi hk (by omega)
      · cases hv : g.ownBlock with
        | none => exact .inl rfl
        | some q =>
          refine .inr (fun e => ?_)
          have h2 := hp q hv
          have h3 := (hs.base k hk q e.symm).2
          omega
    · simp only [e, if_false]; exact h.sep j k (by omega) (by omega) hk
/-- .. while the list of the longer ones is lengthened -/
theorem L2.long {K : Nat} {kv : Value} {n lb off B : Nat} {A : Nat → Option Addr} {C M : Nat → Nat} {i m : Nat} {G : Nat → Value} {w0 w w' : World} {v : Value} {xs : List Value} (h : L2 K kv n lb off B A C M i G w0 w) (hs : Still n lb B A C M w0 K)
    (hv : w.ownsRow w0.heap.size 26 1 v m xs) (hg : w.grownBy w' v.ownBlock) : L2 K kv n lb off B A C M i G w0 w' := by
  have hsz := h.bel.size
  refine ⟨hg.cell h.kc (fun e => by have := (hv.lt K e.symm).1; have := hs.lK; omega), fun j hj => hg.cell (h.row j hj) (fun e => ?_), fun j h1 hj => (h.own j h1 hj).kept hg (apart (h.own j h1 hj) hv (by decide)), fun j hj => (h.lon j hj).kept hg (apart (h.lon j hj) hv (by decide)), fun j hj => ?_, h.sep, h.bel.grown hg (Nat.le_trans hs.size hsz) (fun k hk => Nat.le_trans hs.size (hv.lt k hk).1), h.ch.trans (Ch.ofGrown hg) (fun x hx e => absurd hx (by have := (hv.lt x e).1; omega))⟩
  · have := (hv.lt lb e.symm).1
    have := hs.lbs
    omega
  · rcases h.rd j hj with h0 | ⟨g, ha, ⟨c, hc⟩, hcell⟩
    · exact .inl h0
    · refine Rd.keep (.inr ⟨g, ha, ⟨c, hc⟩, hcell⟩) hg (fun q hq e => ?_)
      rw [ha] at hq
      simp only [Option.some.injEq, Addr.mk.injEq, and_true] at hq
      subst hq
      obtain ⟨c', hc'⟩ := kind hv g e.symm
      rw [hc] at hc'
      simp at hc'
theorem L2.alloc {K : Nat} {kv : Value} {n lb off B : Nat} {A : Nat → Option Addr} {C M : Nat → Nat} {i : Nat} {G : Nat → Value} {w0 w : World} (h : L2 K kv n lb off B A C M i G w0 w) (hs : Still n lb B A C M w0 K) (o : Obj) : L2 K kv n lb off B A C M i G w0 (w.alloc o) := by
  have hg := World.grownBy_alloc w o none
  exact ⟨hg.cell h.kc (by simp), fun j hj => hg.cell (h.row j hj) (by simp), fun j h1 hj => (h.own j h1 hj).alloc o, fun j hj => (h.lon j hj).alloc o, fun j hj => (h.rd j hj).keep hg (fun _ _ => by simp), h.sep, h.bel.alloc (Nat.le_trans hs.size h.bel.size) o, h.ch.alloc o⟩
def mi0 (M : Nat → Nat) (i : Nat) : Nat := M i
/-- while one list is lengthened: it still reads as it was, the longer one lies in its row or in a new one -/
structure Inn (wi w : World) (a : Option Addr) (m c x : Nat) (gv : Value) : Prop where
  rd : Rd w a m x
  grow : wi.grownBy w (Value.slice a m c).ownBlock
  old : ∀ q, (Value.slice a m c).ownBlock = some q → q < wi.heap.size
  head : ∀ y, a = some y → y = ⟨y.block, 0, none⟩
  at' : gv.ownBlock = (Value.slice a m c).ownBlock ∨ ∀ q, gv.ownBlock = some q → wi.heap.size ≤ q
theorem Inn.start {w : World} {a : Option Addr} {m c x B : Nat} (h : OwnB w B (.slice a m c) m (rp m x)) (hh : ∀ y, a = some y → y = ⟨y.block, 0, none⟩) : Inn w w a m c x (.slice a m c) :=
  ⟨Rd.of h (Nat.le_refl _) rfl hh, World.grownBy.refl _ _, fun q hq => (h.lt q hq).2, hh, .inl rfl⟩
theorem Inn.step {wi w w' : World} {a : Option Addr} {m c x B n : Nat} {gv gv' : Value} {o : Obj} (h : Inn wi w a m c x gv) (ho : OwnB w' B gv' n (rp n x)) (hn : m ≤ n)
    (hs : ((w.alloc o).grownBy w' none ∧ ∀ q, gv'.ownBlock = some q → (w.alloc o).heap.size ≤ q) ∨ ((w.alloc o).grownBy w' gv.ownBlock ∧ gv'.ownBlock = gv.ownBlock ∧ gv.ownBlock ≠ none)) : Inn wi w' a m c x gv' := by
  have ha : wi.grownBy (w.alloc o) (Value.slice a m c).ownBlock := gtrans h.grow (World.grownBy_alloc w o _)
  have hra : Rd (w.alloc o) a m x := h.rd.keep (World.grownBy_alloc w o none) (fun _ _ => by simp)
  rcases hs with ⟨hg, hq⟩ | ⟨hg, e, hne⟩
  · exact ⟨hra.keep hg (fun _ _ => by simp), gfar ha hg (fun _ h => by simp at h), h.old, h.head, .inr (fun q hq' => Nat.le_trans ha.size (hq q hq'))⟩
  · rcases h.at' with h1 | h1
    · refine ⟨?_, gtrans ha (by rw [← h1]; exact hg), h.old, h.head, .inl (e.trans h1)⟩
      obtain ⟨a', c', rfl⟩ := owns_shape ho
      exact Rd.of ho hn (h1.symm.trans e.symm) h.head
    · refine ⟨hra.keep hg (fun g hg' e' => ?_), gfar ha hg h1, h.old, h.head, .inr (fun q hq => h1 q (e ▸ hq))⟩
      have h2 := h.old g (by rw [hg']; rfl)
      have h3 := h1 g e'.symm
      omega
def R (a b : Value) : Prop := a.ownBlock = none ∨ a.ownBlock ≠ b.ownBlock
theorem R.symm {a b : Value} (h : R a b) : R b a := by
  rcases h with h | h
  · cases hb : b.ownBlock with
    | none => exact .inl hb
    | some q => exact .inr (by rw [h, hb]; simp)
  · exact .inr (fun e => h e.symm)
end Go.Proofs.YtdinhgfkpjaipaaDoor.Bk
namespace Go.Proofs.YtdinhgfkpjaipaaDoor.Bk
open Go.RowKit

theorem yields_parts {ops : Array Oper} {o : Oper} {a : Act} {S : World → Prop} (x : Operand) (ho : o.op = .load 50 x) (b off : Nat) (u : Value) (hx : a.eval x = .pointer (some ⟨b, off, none⟩)) (hw : Region.wanted o (yielded ops a.tmps) = true) (hS : ∀ w, S w → w.cell? ⟨b, off, none⟩ = some u) : YieldsIf Tryd.prog ops S o u a := by
  refine .inl ⟨hw, fun w hb => ?_⟩
  have hc := hS w hb
  have hu := Tryd.underlying50
  obtain ⟨dst, op, type, pos, after, guard⟩ := o
  simp only at ho
  subst ho
  simp only [execOp, Sem.run_bind, Sem.run_pure]
  rw [hx]
  simp [Instr.loadAt, go_sem, hc]
/-- a list that was handed out, and what it held -/
structure BE where
  a : Option Addr
  c : Nat
  wa : Option Addr
  wc : Nat
  l : List Nat
def BE.v (e : BE) : Value := .slice e.a e.l.length e.c
def BE.u (e : BE) : Value := .slice e.wa e.l.length e.wc
def no : BE := ⟨none, 0, none, 0, []⟩
/-- the book in memory -/
structure BookAt (w : World) (B K : Nat) (vL vW : Value) (E : List BE) : Prop where
  c0 : w.cell? ⟨K, 0, none⟩ = some vL
  c1 : w.cell? ⟨K, 1, none⟩ = some vW
  fz : ∀ j, w.frozen? ⟨K, j, none⟩ = false
  oL : w.ownsRow B 26 1 vL E.length (E.map BE.v)
  oW : w.ownsRow B 26 1 vW E.length (E.map BE.u)
  own : ∀ e ∈ E, OwnB w B e.v e.l.length e.l
  ownW : ∀ e ∈ E, OwnB w B e.u e.l.length e.l
  dis : (E.map BE.v).Pairwise R
  b256 : ∀ e ∈ E, (∀ y ∈ e.l, y < 256) ∧ e.l.length ≤ 65535
  nK : ∀ e ∈ E, e.v.ownBlock ≠ some K ∧ e.u.ownBlock ≠ some K
  nL : vL.ownBlock ≠ some K ∧ vW.ownBlock ≠ some K
  LW : R vL vW
  hK : B ≤ K
/-- its blocks -/
def bB (K : Nat) (vL vW : Value) (E : List BE) (q : Nat) : Prop := q = K ∨ vL.ownBlock = some q ∨ vW.ownBlock = some q ∨ ∃ e ∈ E, e.v.ownBlock = some q ∨ e.u.ownBlock = some q
variable {w w' : World} {B K : Nat} {vL vW : Value} {E : List BE}
theorem BookAt.ch {T : Nat → Prop} (h : BookAt w B K vL vW E) (k : Ch T w w') (hT : ∀ q, bB K vL vW E q → ¬ T q) : BookAt w' B K vL vW E :=
  ⟨k.cell h.c0 (hT K (.inl rfl)), k.cell h.c1 (hT K (.inl rfl)), fun j => (k.frozen (p := ⟨K, j, none⟩) (World.block_lt_of_cell? w ⟨K, 0, none⟩ h.c0) (hT K (.inl rfl))).trans (h.fz j), k.owns h.oL (fun g hg => hT g (.inr (.inl hg))), k.owns h.oW (fun g hg => hT g (.inr (.inr (.inl hg)))),
    fun e he => k.owns (h.own e he) (fun g hg => hT g (.inr (.inr (.inr ⟨e, he, .inl hg⟩)))), fun e he => k.owns (h.ownW e he) (fun g hg => hT g (.inr (.inr (.inr ⟨e, he, .inr hg⟩)))), h.dis, h.b256, h.nK, h.nL, h.LW, h.hK⟩
theorem BookAt.below (h : BookAt w B K vL vW E) (k : Below w.heap.size w w') : BookAt w' B K vL vW E := h.ch (Ch.ofBelow (S := fun _ => False) k) (fun _ _ => id)
theorem BookAt.lt (h : BookAt w B K vL vW E) (q : Nat) (hq : bB K vL vW E q) : B ≤ q ∧ q < w.heap.size := by
  rcases hq with rfl | hq | hq | ⟨e, he, hq | hq⟩
  · exact ⟨h.hK, World.block_lt_of_cell? w ⟨q, 0, none⟩ h.c0⟩
  · exact h.oL.lt q hq
  · exact h.oW.lt q hq
  · exact (h.own e he).lt q hq
  · exact (h.ownW e he).lt q hq
theorem BookAt.at (h : BookAt w B K vL vW E) (i : Nat) (hi : i < E.length) : ∃ gl cl gw cw, vL = .slice (some ⟨gl, 0, none⟩) E.length cl ∧ vW = .slice (some ⟨gw, 0, none⟩) E.length cw ∧ ∀ x, Below w.heap.size w x → x.cell? ⟨gl, i, none⟩ = some (E[i].v) ∧ x.cell? ⟨gw, i, none⟩ = some (E[i].u) := by
  obtain ⟨gl, cl, rfl⟩ := Dk.owns_pos h.oL (by omega)
  obtain ⟨gw, cw, rfl⟩ := Dk.owns_pos h.oW (by omega)
  refine ⟨gl, cl, gw, cw, rfl, rfl, fun x hx => ?_⟩
  have h' := h.below hx
  refine ⟨?_, ?_⟩
  · rw [h'.oL.cellAt i (by omega)]; simp [hi]
  · rw [h'.oW.cellAt i (by omega)]; simp [hi]
theorem BookAt.len (h : BookAt w B K vL vW E) : ∃ al cl aw cw, vL = .slice al E.length cl ∧ vW = .slice aw E.length cw := by
  obtain ⟨al, cl, e1⟩ := owns_shape h.oL
  obtain ⟨aw, cw, e2⟩ := owns_shape h.oW
  exact ⟨al, cl, aw, cw, e1, e2⟩
end Go.Proofs.YtdinhgfkpjaipaaDoor.Bk
namespace Go.Proofs.YtdinhgfkpjaipaaDoor.Bk
open Go.RowKit

theorem news1' (w : World) (t : TypeId) (x : Value) : ∀ j u, ([x] : List Value)[j]? = some u → (w.alloc (.cells #[x] t)).cell? ((⟨w.heap.size, 0, none⟩ : Addr).add j) = some u := news_at w t [x]
theorem ch_grown {x x' : World} {o : Obj} {v u : Value} (hg : ((x.alloc o).grownBy x' none ∧ ∀ q, u.ownBlock = some q → x.heap.size + 1 ≤ q) ∨ ((x.alloc o).grownBy x' v.ownBlock ∧ u.ownBlock = v.ownBlock ∧ ¬ v.ownBlock = none)) : Ch (fun q => v.ownBlock = some q) x x' ∧ ∀ q, u.ownBlock = some q → v.ownBlock = some q ∨ x.heap.size ≤ q := by
  have hA : Below x.heap.size x (x.alloc o) := (Below.refl _ _).alloc (Nat.le_refl _) _
  refine ⟨(Ch.ofBelow (S := fun q => v.ownBlock = some q) hA).trans (T := fun q => v.ownBlock = some q) ?_ (fun q _ e => e), fun q hq => ?_⟩
  · rcases hg with ⟨g, _⟩ | ⟨g, _⟩
    · exact (Ch.ofGrown g).mono (fun q _ e => by cases e)
    · exact (Ch.ofGrown g).mono (fun q _ e => e)
  · rcases hg with ⟨_, g⟩ | ⟨_, g, _⟩
    · exact .inr (by have := g q hq; omega)
    · exact .inl (by rw [← g]; exact hq)
/-- what Keep leaves -/
structure Kept (w w' : World) (B K : Nat) (vL vW vL' vW' : Value) (E : List BE) (e : BE) : Prop where
  bk : BookAt w' B K vL' vW' (E ++ [e])
  ch : Ch (bB K vL vW E) w w'
  new : ∀ q, bB K vL' vW' (E ++ [e]) q → bB K vL vW E q ∨ e.v.ownBlock = some q ∨ w.heap.size ≤ q
theorem keep_fin {w w1 w2 w3 w4 : World} {B K : Nat} {vL vW vL' vW' : Value} {E : List BE} {a wa : Option Addr} {c wc : Nat} {l : List Nat} (h : BookAt w B K vL vW E) (hB : B ≤ w.heap.size) (ho : OwnB w B (.slice a l.length c) l.length l) (h256 : (∀ y ∈ l, y < 256) ∧ l.length ≤ 65535) (hf : ∀ q, (Value.slice a l.length c).ownBlock = some q → ¬ bB K vL vW E q)
    (hb1 : Below w.heap.size w w1) (ho1 : w1.ownsRow w.heap.size 5 1 (.slice wa l.length wc) l.length ((toI l).map (Value.int .u8))) (hL2 : w2.ownsRow B 26 1 vL' (E.length + 1) (E.map BE.v ++ [.slice a l.length c])) (k2 : Ch (fun q => vL.ownBlock = some q) w1 w2) (q2 : ∀ q, vL'.ownBlock = some q → vL.ownBlock = some q ∨ w1.heap.size ≤ q) (k3 : Ch (fun q => q = K) w2 w3)
    (hW4 : w4.ownsRow B 26 1 vW' (E.length + 1) (E.map BE.u ++ [.slice wa l.length wc])) (k4 : Ch (fun q => vW.ownBlock = some q) w3 w4) (q4 : ∀ q, vW'.ownBlock = some q → vW.ownBlock = some q ∨ w3.heap.size ≤ q) (c04 : w4.cell? ⟨K, 0, none⟩ = some vL') (fz4 : ∀ j, w4.frozen? ⟨K, j, none⟩ = false) (c14 : w4.cell? ⟨K, 1, none⟩ = some vW) :
    Kept w (w4.setCell ⟨K, 1, none⟩ vW') B K vL vW vL' vW' E ⟨a, c, wa, wc, l⟩ := by
  have k5 : Ch (fun q => q = K) w4 (w4.setCell ⟨K, 1, none⟩ vW') := (Ch.refl _ w4).set _ _ rfl
  have s1 := hb1.size
  have s2 := k2.size
  have s3 := k3.size
  have s4 := k4.size
  have KL := (h.lt K (.inl rfl)).2
  have bL : ∀ q, vL.ownBlock = some q → q < w.heap.size := fun q hq => (h.oL.lt q hq).2
  have bW : ∀ q, vW.ownBlock = some q → q < w.heap.size := fun q hq => (h.oW.lt q hq).2
  have RLW : ∀ q, vL.ownBlock = some q → ¬ vW.ownBlock = some q := fun q h1 h2 => by
    rcases h.LW with e | e
    · rw [e] at h1; cases h1
    · exact e (by rw [h1, h2])
  have kA : Ch (fun q => q = K ∨ vL.ownBlock = some q ∨ vW.ownBlock = some q) w (w4.setCell ⟨K, 1, none⟩ vW') :=
    ((((Ch.ofBelow (S := fun q => q = K ∨ vL.ownBlock = some q ∨ vW.ownBlock = some q) hb1).trans k2 (fun q _ e => .inr (.inl e))).trans k3 (fun q _ e => .inl e)).trans k4 (fun q _ e => .inr (.inr e))).trans k5 (fun q _ e => .inl e)
  have noL : ∀ {x : World} {bs m : Nat} {v : Value} {ys : List Value}, x.ownsRow bs 5 1 v m ys → x = w → ∀ q, v.ownBlock = some q → ¬ (vL.ownBlock = some q ∨ vW.ownBlock = some q) := by
    intro x bs m v ys hx e q hq hv
    subst e
    rcases hv with hv | hv
    · rcases apart hx h.oL (by decide) with e | e
      · rw [e] at hq; cases hq
      · exact e (by rw [hq, hv])
    · rcases apart hx h.oW (by decide) with e | e
      · rw [e] at hq; cases hq
      · exact e (by rw [hq, hv])
  have nL' : ∀ q, vL'.ownBlock = some q → q ≠ K := fun q hq e => by
    subst e
    rcases q2 q hq with g | g
    · exact h.nL.1 g
    · omega
  have nW' : ∀ q, vW'.ownBlock = some q → q ≠ K := fun q hq e => by
    subst e
    rcases q4 q hq with g | g
    · exact h.nL.2 g
    · omega
  have oL5 : (w4.setCell ⟨K, 1, none⟩ vW').ownsRow B 26 1 vL' (E.length + 1) (E.map BE.v ++ [.slice a l.length c]) :=
    k5.owns (k4.owns (k3.owns hL2 (fun q hq => nL' q hq)) (fun q hq e => by
      rcases q2 q hq with g | g
      · exact RLW q g e
      · have := bW q e; omega)) (fun q hq => nL' q hq)
  have fresh : ∀ q, (Value.slice wa l.length wc).ownBlock = some q → w.heap.size ≤ q := fun q hq => (ho1.lt q hq).1
  have oWn : (w4.setCell ⟨K, 1, none⟩ vW').ownsRow w.heap.size 5 1 (.slice wa l.length wc) l.length ((toI l).map (Value.int .u8)) := by
    have kB : Ch (fun q => q = K ∨ vL.ownBlock = some q ∨ vW.ownBlock = some q) w1 (w4.setCell ⟨K, 1, none⟩ vW') :=
      (((k2.mono (fun q _ e => .inr (.inl e))).trans k3 (fun q _ e => .inl e)).trans k4 (fun q _ e => .inr (.inr e))).trans k5 (fun q _ e => .inl e)
    refine kB.owns ho1 (fun q hq e => ?_)
    have := fresh q hq
    rcases e with e | e | e
    · omega
    · have := bL q e; omega
    · have := bW q e; omega
  have keepV : ∀ {m : Nat} {v : Value} {ys : List Value}, w.ownsRow B 5 1 v m ys → v.ownBlock ≠ some K → (w4.setCell ⟨K, 1, none⟩ vW').ownsRow B 5 1 v m ys := by
    intro m v ys hx hn
    refine kA.owns hx (fun q hq e => ?_)
    rcases e with e | e
    · subst e; exact hn hq
    · exact noL hx rfl q hq e
  have hnew : (Value.slice a l.length c).ownBlock ≠ some K := fun e => hf K e (.inl rfl)
  refine ⟨⟨?_, ?_, ?_, ?_, ?_, ?_, ?_, ?_, ?_, ?_, ?_, ?_, h.hK⟩, kA.mono (fun q _ e => ?_), ?_⟩
  · rw [World.cell?_setCell_other _ _ _ _ (by simp)]; exact c04
  · exact World.cell?_setCell_same _ _ _ c14
  · intro j; rw [World.frozen?_setCell]; exact fz4 j
  · rw [List.length_append, List.map_append]; exact oL5
  · rw [List.length_append, List.map_append]; exact k5.owns hW4 (fun q hq => nW' q hq)
  · intro e he
    rcases List.mem_append.1 he with he | he
    · exact keepV (h.own e he) (h.nK e he).1
    · have e3 : e = ⟨a, c, wa, wc, l⟩ := by simpa using he
      subst e3
      exact keepV ho hnew
  · intro e he
    rcases List.mem_append.1 he with he | he
    · exact keepV (h.ownW e he) (h.nK e he).2
    · have e3 : e = ⟨a, c, wa, wc, l⟩ := by simpa using he
      subst e3
      exact owns_mono oWn hB
  · rw [List.map_append, List.pairwise_append]
    refine ⟨h.dis, by simp, fun x hx y hy => ?_⟩
    obtain ⟨e, he, rfl⟩ := List.mem_map.1 hx
    have e3 : y = Value.slice a l.length c := by simpa [BE.v] using hy
    subst e3
    cases hv : e.v.ownBlock with
    | none => exact .inl hv
    | some q =>
      refine .inr (fun e4 => ?_)
      rw [hv] at e4
      exact hf q e4.symm (.inr (.inr (.inr ⟨e, he, .inl hv⟩)))
  · intro e he
    rcases List.mem_append.1 he with he | he
    · exact h.b256 e he
    · have e3 : e = ⟨a, c, wa, wc, l⟩ := by simpa using he
      subst e3
      exact h256
  · intro e he
    rcases List.mem_append.1 he with he | he
    · exact h.nK e he
    · have e3 : e = ⟨a, c, wa, wc, l⟩ := by simpa using he
      subst e3
      exact ⟨hnew, fun e4 => by have := fresh K e4; omega⟩
  · exact ⟨fun e => nL' K e rfl, fun e => nW' K e rfl⟩
  · cases hv : vL'.ownBlock with
    | none => exact .inl hv
    | some q =>
      refine .inr (fun e4 => ?_)
      rw [hv] at e4
      have hq4 := hL2.lt q hv
      rcases q2 q hv with g | g
      · rcases q4 q e4.symm with g' | g'
        · exact RLW q g g'
        · have := bL q g; omega
      · rcases q4 q e4.symm with g' | g'
        · have := bW q g'; omega
        · omega
  · rcases e with e | e | e
    · exact .inl e
    · exact .inr (.inl e)
    · exact .inr (.inr (.inl e))
  · rintro q (rfl | hq | hq | ⟨e, he, hq⟩)
    · exact .inl (.inl rfl)
    · rcases q2 q hq with g | g
      · exact .inl (.inr (.inl g))
      · exact .inr (.inr (by omega))
    · rcases q4 q hq with g | g
      · exact .inl (.inr (.inr (.inl g)))
      · exact .inr (.inr (by omega))
    · rcases List.mem_append.1 he with he | he
      · exact .inl (.inr (.inr (.inr ⟨e, he, hq⟩)))
      · have e3 : e = ⟨a, c, wa, wc, l⟩ := by simpa using he
        subst e3
        rcases hq with hq | hq
        · exact .inr (.inl hq)
        · exact .inr (.inr (fresh q hq))
end Go.Proofs.YtdinhgfkpjaipaaDoor.Bk
namespace Go.Proofs.YtdinhgfkpjaipaaDoor.Bk
open Go.RowKit

theorem form {w : World} {B : Nat} {v : Value} {n : Nat} {l : List Nat} (h : OwnB w B v n l) (hn : 0 < n) : ∃ g c, v = .slice (some ⟨g, 0, none⟩) n c ∧ B ≤ g ∧ g < w.heap.size := by
  rcases h.2 with ⟨_, h0⟩ | ⟨g, cap, cur, rfl, hg, hh, r⟩
  · omega
  · exact ⟨g, cap, rfl, hg, (Array.getElem?_eq_some_iff.1 hh).1⟩
theorem toI_set' (l : List Nat) (i x : Nat) : ((toI l).map (Value.int .u8)).set i (.int .u8 (x : Int)) = (toI (l.set i x)).map (Value.int .u8) := by
  simp [toI, List.map_set]
theorem mark_wrap (i : Nat) : IntKind.u8.wrap (1 + (i : Int) % 251) = ((mark i : Nat) : Int) := by
  simp [mark, IntKind.wrap, IntKind.bits, IntKind.signed]; omega
theorem mark_mod (i : Nat) : Int.tmod (i : Int) 251 = (i : Int) % 251 := Int.tmod_eq_emod_of_nonneg (by omega)
theorem getD_val (E : List BE) (j : Nat) (h : j < E.length) : E.getD j no = E[j] := by simp [List.getD, h]
end Go.Proofs.YtdinhgfkpjaipaaDoor.Bk
namespace Go.Proofs.YtdinhgfkpjaipaaDoor
open Go.RowKit Go.ChangeShapes Go.WideShapes

/-- any number as a place of n -/
def spot (i : Int) (n : Nat) : Nat := (i % (n : Int)).toNat
theorem spot_lt (i : Int) (n : Nat) (h : 0 < n) : spot i n < n := by
  have h1 := Int.emod_lt_of_pos i (show (0 : Int) < (n : Int) by omega)
  have h2 := Int.emod_nonneg i (show (n : Int) ≠ 0 by omega)
  unfold spot; omega
theorem tmod_spot (i : Int) (n : Nat) (h : 0 < n) : (if i.tmod (n : Int) < 0 then i.tmod (n : Int) + (n : Int) else i.tmod (n : Int)) = ((spot i n : Nat) : Int) := by
  have h2 := Int.emod_nonneg i (show (n : Int) ≠ 0 by omega)
  have e : ((spot i n : Nat) : Int) = i % (n : Int) := by unfold spot; omega
  have h1 := Int.emod_lt_of_pos i (show (0 : Int) < (n : Int) by omega)
  rw [e]
  have ht := Int.tmod_eq_emod (a := i) (b := (n : Int))
  split at ht <;> split <;> omega
theorem spot_any (i : Int) (n : Nat) (w : World) (h0 : 0 < n) (hn : n ≤ 1048576) : Calls Tryd.prog 44 #[.int .i64 i, .int .i64 (n : Int)] w fun e w' => e = .returned (.int .i64 ((spot i n : Nat) : Int)) ∧ w = w' := by
  have HE : Hid _ := tmod_spot i n h0
  have hl := Int.tmod_lt_of_pos i (show (0 : Int) < (n : Int) by omega)
  have hg : -(n : Int) < i.tmod (n : Int) := Int.lt_tmod_of_pos i (show (0 : Int) < (n : Int) by omega)
  have e0 : ((n : Int) == 0) = false := by simp; omega
  have e1 : (n : Int) ≠ 0 := by omega
  have e2 : IntKind.i64.wrap (i.tmod (n : Int)) = i.tmod (n : Int) := by simp [IntKind.wrap, IntKind.bits, IntKind.signed]; omega
  by_cases hlt : i.tmod (n : Int) < 0
  · have e3 : IntKind.i64.wrap (i.tmod (n : Int) + (n : Int)) = i.tmod (n : Int) + (n : Int) := by simp [IntKind.wrap, IntKind.bits, IntKind.signed]; omega
    have HR : Hid (i.tmod (n : Int) + (n : Int) = ((spot i n : Nat) : Int)) := by have := HE.out; rwa [if_pos hlt] at this
    clear HE
    go_enter Tryd.func44, Tryd.ntmps44
    go_wp2
    go_ret
    exact ⟨congrArg (fun z => Ending.returned (.int .i64 z)) HR.out, rfl⟩
  · have HR : Hid (i.tmod (n : Int) = ((spot i n : Nat) : Int)) := by have := HE.out; rwa [if_neg hlt] at this
    clear HE
    go_enter Tryd.func44, Tryd.ntmps44
    go_wp2
    go_ret
    exact ⟨congrArg (fun z => Ending.returned (.int .i64 z)) HR.out, rfl⟩
/-- one turn: a place, a byte -/
structure Tn where
  p : Int
  b : Int
def Tn.cells (o : Tn) : List Value := [.int .i64 o.p, .int .i64 o.b]
theorem Tryd.cellsT' : Tryd.prog.cellsOf 76 = 2 := by kernel_rfl
theorem Tn.cells_len (o : Tn) : o.cells.length = 2 := rfl
section
variable {H : Type} {enc : TypeId × Value → H} {W : World}
set_option maxRecDepth 100000 in
theorem open_tn (fuel : Nat) (cs : List Value) (x : DataW H × List MemPlace) (hf : DataW.trod enc Tryd.prog W 0 (fun _ => true) true fuel 76 cs = some x) (_ : Rows.uptoBulk x.1 ≤ 1048576) : ∃ o : Tn, cs = o.cells ∧ True := by
  obtain ⟨ys, m, _, _, hl, hyl, hel⟩ := DataW.trod_array Tryd.underlying76 hf
  rw [Tryd.cellsT'] at hl
  have h0 := hel 0 (by decide)
  have h1 := hel 1 (by decide)
  rw [Tryd.cellsI', List.getElem?_eq_getElem (by omega)] at h0 h1
  obtain ⟨p, e0, _, _⟩ := DataW.trod_int Tryd.underlying3 h0
  obtain ⟨b, e1, _, _⟩ := DataW.trod_int Tryd.underlying3 h1
  match cs, hl with
  | [c0, c1], _ =>
    simp at e0 e1
    exact ⟨⟨p, b⟩, by rw [e0, e1]; rfl, trivial⟩
theorem open_turns {fuel : Nat} {a : Option Addr} {len cap : Nat} {d : DataW H} {p : List MemPlace} (hf : DataW.trod enc Tryd.prog W 0 (fun _ => true) true fuel 57 [.slice a len cap] = some (d, p)) (hb : Rows.uptoBulk d ≤ 1048576) :
    ∃ rs : List Tn, rs.length = len ∧ ListG 2 Tn.cells (fun _ => True) W a rs ∧ len ≤ 1048576 :=
  open_list 2 Tn.cells (fun _ => True) Tryd.underlying57 Tryd.cellsT' (by decide) Tn.cells_len open_tn hf hb
end
end Go.Proofs.YtdinhgfkpjaipaaDoor
