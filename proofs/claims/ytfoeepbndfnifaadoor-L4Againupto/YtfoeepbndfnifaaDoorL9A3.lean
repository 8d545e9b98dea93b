/-
  Layer 9: the desk, the book and the spot of weirlaw3 and weirlaw6.
-/
/-
  Layer 9: the lists of weirlaw6.
-/
/-
  L4Again: the desk with the buffer, the copy of what it holds, and the lists handed out, side by side.
-/
/-
  L4Again: ParseTcp and TcpOptions with the lists that they hand out.
-/
import Derived.Test.YtfoeepbndfnifaaDoorL9A0
import Derived.Test.YtfoeepbndfnifaaDoorL9Open
import Derived.Deep.DeepCutAuto
import Derived.Test.YtfoeepbndfnifaaDoorMixH
import Derived.Test.YtfoeepbndfnifaaDoorL9A2
namespace Go.Proofs.YtfoeepbndfnifaaDoor.Dk
open Go.RowKit

def ovr (f : Nat → Nat) (d : List Nat) (j : Nat) : List Nat := (List.range j).map f ++ d.drop j
theorem ovr_set (f : Nat → Nat) (d : List Nat) (j : Nat) (h : j < d.length) : (ovr f d j).set j (f j) = ovr f d (j + 1) := by
  unfold ovr
  rw [List.set_append_right _ _ (by simp), List.length_map, List.length_range, Nat.sub_self, List.drop_eq_getElem_cons h, List.set_cons_zero, List.range_succ, List.map_append]
  simp
theorem alike_any (a b : Option Addr) (ca cb : Nat) (l m : List Nat) (w : World) (hl : Seg .u8 w a (toI l)) (hm : Seg .u8 w b (toI m)) (hl2 : ∀ x ∈ l, x < 256) (hm2 : ∀ x ∈ m, x < 256) :
    Calls Tryd.prog 41 #[.slice a l.length ca, .slice b m.length cb] w fun e w' => e = .returned (.bool (decide (l = m))) ∧ w = w' := by
  have k1 := conv_any w a ca l hl hl2
  have k2 := conv_any w b cb m hm hm2
  obtain ⟨s, hs⟩ : ∃ s, s = strOf l := ⟨_, rfl⟩
  obtain ⟨t, ht⟩ : ∃ t, t = strOf m := ⟨_, rfl⟩
  rw [← hs] at k1
  rw [← ht] at k2
  have HD : Hid ((s.toList == t.toList) = decide (l = m)) := by
    show (s.toList == t.toList) = decide (l = m)
    rw [hs, ht, ByteArray.toList_eq, ByteArray.toList_eq]
    by_cases h : l = m
    · subst h; simp
    · have : (strOf l).data.toList ≠ (strOf m).data.toList := fun e => h (strOf_eq l m hl2 hm2 (WideShapes.bytes_inj e))
      rw [decide_eq_false h]
      simpa using this
  clear hs ht
  go_enter Tryd.func41, Tryd.ntmps41
  go_wp2
  go_ret
  exact ⟨congrArg (fun b => Ending.returned (.bool b)) HD.out, rfl⟩

theorem xor_step {x : World} {b m c : Nat} {a : Option Addr} {l' : List Int} (h : x.ownsRow b 5 1 (.slice a m c) m (l'.map (Value.int .u8))) (k : Nat) (hk : k < m) : ∃ g, a = some ⟨g, 0, none⟩ ∧ ∃ z : Int, x.cell? ⟨g, k, none⟩ = some (.int .u8 z) ∧ x.frozen? ⟨g, k, none⟩ = false ∧
    ∀ (u : Value) (y : Int), u = .int .u8 y → (x.setCell ⟨g, k, none⟩ u).ownsRow b 5 1 (.slice a m c) m ((l'.set k y).map (Value.int .u8)) ∧ Ch (fun q => q = g) x (x.setCell ⟨g, k, none⟩ u) := by
  have hl : l'.length = m := by have := h.1; simpa using this
  rcases h.2 with ⟨_, h0⟩ | ⟨g, cap, cur, e, _⟩
  · omega
  have ea : a = some ⟨g, 0, none⟩ := (Value.slice.inj e).1
  subst ea
  refine ⟨g, rfl, l'[k]'(by omega), ?_, h.frozenAt k, fun u y hu => ?_⟩
  · rw [h.cellAt k (by omega)]; simp [show k < l'.length by omega]
  · subst hu
    refine ⟨?_, (Ch.refl _ x).set _ _ rfl⟩
    have := (h.stored k (.int .u8 y)).1
    rwa [← List.map_set] at this

theorem yields_bytes {ops : Array Oper} {o : Oper} {a : Act} {S : World → Prop} (x : Operand) (ho : o.op = .load 25 x) (b off : Nat) (u : Value) (hx : a.eval x = .pointer (some ⟨b, off, none⟩)) (hw : Region.wanted o (yielded ops a.tmps) = true) (hS : ∀ w, S w → w.cell? ⟨b, off, none⟩ = some u) : YieldsIf Tryd.prog ops S o u a := by
  refine .inl ⟨hw, fun w hb => ?_⟩
  have hc := hS w hb
  have hu := Tryd.underlying25
  obtain ⟨dst, op, type, pos, after, guard⟩ := o
  simp only at ho
  subst ho
  simp only [execOp, Sem.run_bind, Sem.run_pure]
  rw [hx]
  simp [Instr.loadAt, go_sem, hc]
theorem yields_int {ops : Array Oper} {o : Oper} {a : Act} {S : World → Prop} (x : Operand) (ho : o.op = .load 3 x) (b off : Nat) (u : Value) (hx : a.eval x = .pointer (some ⟨b, off, none⟩)) (hw : Region.wanted o (yielded ops a.tmps) = true) (hS : ∀ w, S w → w.cell? ⟨b, off, none⟩ = some u) : YieldsIf Tryd.prog ops S o u a := by
  refine .inl ⟨hw, fun w hb => ?_⟩
  have hc := hS w hb
  have hu := Tryd.underlying3
  obtain ⟨dst, op, type, pos, after, guard⟩ := o
  simp only at ho
  subst ho
  simp only [execOp, Sem.run_bind, Sem.run_pure]
  rw [hx]
  simp [Instr.loadAt, go_sem, hc]
theorem yields_u8 {ops : Array Oper} {o : Oper} {a : Act} {S : World → Prop} (x : Operand) (ho : o.op = .load 5 x) (b off : Nat) (u : Value) (hx : a.eval x = .pointer (some ⟨b, off, none⟩)) (hw : Region.wanted o (yielded ops a.tmps) = true) (hS : ∀ w, S w → w.cell? ⟨b, off, none⟩ = some u) : YieldsIf Tryd.prog ops S o u a := by
  refine .inl ⟨hw, fun w hb => ?_⟩
  have hc := hS w hb
  have hu := Tryd.underlying5
  obtain ⟨dst, op, type, pos, after, guard⟩ := o
  simp only at ho
  subst ho
  simp only [execOp, Sem.run_bind, Sem.run_pure]
  rw [hx]
  simp [Instr.loadAt, go_sem, hc]
theorem i64_mid (x : Int) (h0 : -4611686018427387904 ≤ x) (h1 : x ≤ 4611686018427387904) : IntKind.i64.wrap x = x := by simp [IntKind.wrap, IntKind.bits, IntKind.signed]; omega
theorem seg_pre {w : World} {g : Nat} {l m : List Nat} (h : Seg .u8 w (some ⟨g, 0, none⟩) (toI (l ++ m))) : Seg .u8 w (some ⟨g, 0, none⟩) (toI l) := by
  rcases h with h | ⟨b, off, e, hc⟩
  · have : l ++ m = [] := by
      have h1 := congrArg List.length h
      rw [toI_len] at h1
      exact List.eq_nil_of_length_eq_zero h1
    exact .inl (by rw [(List.append_eq_nil_iff.1 this).1]; rfl)
  · refine .inr ⟨b, off, e, fun i hi => ?_⟩
    rw [toI_len] at hi
    rw [hc i (by rw [toI_len, List.length_append]; omega), toI_getD, toI_getD]
    congr 2
    simp [List.getD, List.getElem?_append_left hi]
theorem wpList_copy_ch {P : Program} {w : World} {ops : Array Oper} {rest : List Oper} {o : Oper} {a : Act} {Q : Exit → Act → World → Prop} (hgd : o.guard = none) (d s : Operand) (dT sT : TypeId)
    (ho : o.op = .call { callee := .builtin .copy, args := #[d, s], argTypes := #[dT, sT] }) (elem : TypeId) (hu : P.underlying dT = some (.slice elem)) (hsz : (P.info? elem).map (·.size) = some 1)
    (dp sp : Option Addr) (dLen dCap sLen sCap : Nat) (hd : a.eval d = .slice dp dLen dCap) (hs : a.eval s = .slice sp sLen sCap)
    (g off : Nat) (cur : List Value) (t : TypeId) (hg : w.heap[g]? = some (.cells cur.toArray t (0, 0))) (cs : List Value) (hn : cs.length = Nat.min sLen dLen)
    (hpos : 0 < cs.length → dp = some ⟨g, off, none⟩ ∧ ∃ ad, sp = some ad ∧ ∀ j v, cs[j]? = some v → w.cell? (ad.add j) = some v)
    (hfit : off + cs.length ≤ cur.length) (h1 : ∀ v ∈ cs, v.oneCell' = true)
    (h : ∀ w', Hid (w'.heap[g]? = some (.cells (splice cur off cs).toArray t (0, 0))) → Ch (fun q => q = g) w w' → wpList P ops Q rest (a.put o.dst (goInt cs.length)) w') :
    wpList P ops Q (o :: rest) a w := by
  by_cases h0 : cs.length = 0
  · obtain rfl : cs = [] := List.eq_nil_of_length_eq_zero h0
    refine wpList_copy_nothing hgd d s dT sT ho elem hu hsz dp sp dLen dCap sLen sCap hd hs (by simpa using hn.symm) ?_
    exact h w (show _ = _ by simpa [splice] using hg) (Ch.refl _ _)
  · obtain ⟨rfl, ad, rfl, hsrc⟩ := hpos (by omega)
    refine wpList_copy_own hgd d s dT sT ho elem hu hsz g off dLen dCap ad sLen sCap hd hs cur.toArray t hg cs hn hsrc (by simpa using hfit) h1 ?_
    exact h _ (show _ = _ by simpa [splice] using setRow_heap w g _ _ t _ hg) ⟨rfl, rfl, rfl, by simp [World.setRow], fun k _ hk => setRow_other w g k _ hk⟩
theorem seg_cells {w : World} {a : Option Addr} {l : List Nat} (h : Seg .u8 w a (toI l)) (h0 : 0 < ((toI l).map (Value.int .u8)).length) : ∃ ad, a = some ad ∧ ∀ j v, ((toI l).map (Value.int .u8))[j]? = some v → w.cell? (ad.add j) = some v := by
  rcases h with hnil | ⟨b, off, rfl, hc⟩
  · rw [hnil] at h0; simp at h0
  · refine ⟨_, rfl, fun j v hj => ?_⟩
    have hj' : j < (toI l).length := by simpa using (List.getElem?_eq_some_iff.1 hj).1
    rw [Addr.add_lit, hc j hj']
    simp [List.getElem?_eq_getElem hj'] at hj
    rw [← hj]
    simp [List.getD, hj']
theorem owns_pos {w : World} {base : Nat} {e : TypeId} {v : Value} {n : Nat} {xs : List Value} (h : w.ownsRow base e 1 v n xs) (hn : 0 < n) : ∃ g c, v = .slice (some ⟨g, 0, none⟩) n c := by
  rcases h.2 with ⟨rfl, h0⟩ | ⟨g, cap, cur, rfl, _⟩
  · omega
  · exact ⟨g, cap, rfl⟩
theorem append_splitK {P : Program} {w : World} {ops : Array Oper} {rest : List Oper} {o : Oper} {a : Act} {Q : Exit → Act → World → Prop} (sz : Nat) (hsz : 0 < sz) (hgd : o.guard = none) (s x : Operand) (t : TypeId)
    (ho : o.op = .call { callee := .builtin .append, args := #[s, x], argTypes := #[t, t] })
    (base : Nat) (e : TypeId) (i : TypeInfo) (z : Value) (bytes : Nat) (ht : P.underlying t = some (.slice e)) (hi : P.info? e = some i) (hz : i.zero = some z)
    (hsize : i.size = sz) (hby : i.bytes = bytes) (hzs : z.cells.size = sz)
    (v : Value) (n : Nat) (xs : List Value) (hs : a.eval s = v) (hown : w.ownsRow base e sz v n xs)
    (ad : Addr) (m c : Nat) (news : List Value) (hx : a.eval x = .slice (some ad) m c) (hl : news.length = m * sz) (hnews : ∀ j u, news[j]? = some u → w.cell? (ad.add j) = some u) (h1 : ∀ u ∈ news, u.oneCell' = true)
    (h63 : n + m ≤ maxLen) (hbytes : (n + m) * bytes ≤ 140737488355328) (hbase : base ≤ w.heap.size)
    (h : ∀ v' w', w'.ownsRow base e sz v' (n + m) (xs ++ news) → ((w.grownBy w' none ∧ ∀ q, v'.ownBlock = some q → w.heap.size ≤ q) ∨ (w.grownBy w' v.ownBlock ∧ v'.ownBlock = v.ownBlock ∧ v.ownBlock ≠ none)) → wpList P ops Q rest (a.put o.dst v') w') : wpList P ops Q (o :: rest) a w := by
  rcases hown.2 with ⟨rfl, rfl⟩ | ⟨g, cap, cur, rfl, hbg, hg, hnc, hcm, hcs, htake⟩
  · have hx0 : xs = [] := List.eq_nil_of_length_eq_zero (by have := hown.1; simpa using this)
    subst hx0
    refine wpList_append_own_at w hgd s x t ho w.heap.size e i z sz bytes ht hi hz hsize hby hzs hsz (.slice none 0 0) 0 [] hs (World.ownsRow_nil _ _ _ _) ad m c news hx hl hnews h1 h63 hbytes (Nat.le_refl _) ?_
    intro v' w' r1 r2 _ _
    exact h v' w' (owns_mono r1 hbase) (.inl ⟨r2, fun q hq => (r1.lt q hq).1⟩)
  · by_cases hroom : n + m ≤ cap
    · refine wpList_append_own_spare w hgd s x t ho base e i sz ht hi hsize g n cap xs hs hown ad m c news hx hl hnews h1 hroom ?_
      intro w' r1 r2
      exact h _ w' r1 (.inr ⟨r2, rfl, by simp [Value.ownBlock]⟩)
    · refine wpList_plain hgd fun K hK => ?_
      obtain ⟨v', w', hrun, r1, r2⟩ := run_append_arg_grows (P := P) w t o.type e i z sz bytes ht hi hz hsize hby hzs hsz ⟨g, 0, none⟩ n cap xs hown.1 (hown.cells rfl) ad m c news hl hnews (by omega) h63 hbytes
      unfold Oper.wp
      simp [execOp, ho, resolve, invoke, builtin, hs, hx, hrun, Result.andThen]
      exact hK _ _ (h v' w' (owns_mono r1 hbase) (.inl ⟨r2, fun q hq => (r1.lt q hq).1⟩))
end Go.Proofs.YtfoeepbndfnifaaDoor.Dk
namespace Go.Proofs.YtfoeepbndfnifaaDoor.Dk
open Go.RowKit

def bh (i : Nat) : Nat := ((203 - 5 * (i : Int)) % 256).toNat
theorem bh_lt (i : Nat) : bh i < 256 := by unfold bh; omega
theorem bh_wrap (i : Nat) : IntKind.u8.wrap (203 - 5 * (i : Int)) = ((bh i : Nat) : Int) := by
  simp [bh, IntKind.wrap, IntKind.bits, IntKind.signed]; omega
theorem mark_any (i : Nat) (w : World) (h : i ≤ 4398046511104) : Calls Tryd.prog 29 #[.int .i64 (i : Int)] w fun e w' => e = .returned (.int .u8 ((bh i : Nat) : Int)) ∧ w = w' := by
  have h2 := bh_wrap i
  go_enter Tryd.func29, Tryd.ntmps29
  go_wp2
  go_ret
  exact ⟨rfl, rfl⟩
/-- the desk in memory -/
structure DeskAt (w : World) (B D : Nat) (a : Option Addr) (N n : Nat) (xs : List Int) : Prop where
  c0 : w.cell? ⟨D, 0, none⟩ = some (.slice a N N)
  c1 : w.cell? ⟨D, 1, none⟩ = some (.int .i64 (n : Int))
  fz : ∀ j, w.frozen? ⟨D, j, none⟩ = false
  own : w.ownsRow B 5 1 (.slice a N N) N (xs.map (Value.int .u8))
  nD : ∀ g, a = some ⟨g, 0, none⟩ → g ≠ D
  hD : B ≤ D
  hN : N ≤ 2097664
def dB (D : Nat) (a : Option Addr) (q : Nat) : Prop := q = D ∨ ∃ y, a = some y ∧ y.block = q
variable {w w' : World} {B D : Nat} {a : Option Addr} {N n : Nat} {xs : List Int}
theorem own_blk (h : w.ownsRow B 5 1 (.slice a N N) N (xs.map (Value.int .u8))) : ∀ q, (Value.slice a N N).ownBlock = some q → dB D a q := fun q hq => by
  rcases h.2 with ⟨h1, _⟩ | ⟨g, cap, cur, h1, _⟩
  · rw [h1] at hq; cases hq
  · have e := (Value.slice.inj h1).1
    subst e
    have : g = q := by simpa [Value.ownBlock] using hq
    exact .inr ⟨_, rfl, this⟩
theorem DeskAt.ch {T : Nat → Prop} (h : DeskAt w B D a N n xs) (k : Ch T w w') (hT : ∀ q, dB D a q → ¬ T q) : DeskAt w' B D a N n xs :=
  ⟨k.cell h.c0 (hT D (.inl rfl)), k.cell h.c1 (hT D (.inl rfl)), fun j => (k.frozen (p := ⟨D, j, none⟩) (World.block_lt_of_cell? w ⟨D, 0, none⟩ h.c0) (hT D (.inl rfl))).trans (h.fz j), k.owns h.own (fun q hq => hT q (own_blk h.own q hq)), h.nD, h.hD, h.hN⟩
theorem DeskAt.below (h : DeskAt w B D a N n xs) (k : Below w.heap.size w w') : DeskAt w' B D a N n xs := h.ch (Ch.ofBelow (S := fun _ => False) k) (fun _ _ => id)
/-- what is lent, and the marks behind it -/
def dk (l : List Nat) (N : Nat) : List Nat := l ++ ((List.range N).map bh).drop l.length
theorem dk_len (l : List Nat) (N : Nat) (h : l.length ≤ N) : (dk l N).length = N := by simp [dk]; omega
theorem ovrI_set (f : Nat → Nat) (d : List Nat) (j : Nat) (h : j < d.length) : ((toI (ovr f d j)).map (Value.int .u8)).set j (.int .u8 ((f j : Nat) : Int)) = (toI (ovr f d (j + 1))).map (Value.int .u8) := by
  rw [← ovr_set f d j h]; simp [toI, List.map_set]
theorem DeskAt.put {g : Nat} (h : DeskAt w B D (some ⟨g, 0, none⟩) N n xs) (k : Nat) (hk : k < N) (y : Int) : ∃ zs, DeskAt (w.setCell ⟨g, k, none⟩ (.int .u8 y)) B D (some ⟨g, 0, none⟩) N n zs ∧ Ch (fun q => q = g) w (w.setCell ⟨g, k, none⟩ (.int .u8 y)) := by
  obtain ⟨g2, hg2, z2, _, _, NX⟩ := xor_step h.own k hk
  have e2 : g2 = g := by simpa using hg2.symm
  subst e2
  obtain ⟨n1, n2⟩ := NX (.int .u8 y) y rfl
  have nD := h.nD _ rfl
  exact ⟨_, ⟨n2.cell h.c0 (fun e => nD e.symm), n2.cell h.c1 (fun e => nD e.symm), fun j => (n2.frozen (p := ⟨D, j, none⟩) (World.block_lt_of_cell? w ⟨D, 0, none⟩ h.c0) (fun e => nD e.symm)).trans (h.fz j), n1, h.nD, h.hD, h.hN⟩, n2⟩
set_option maxRecDepth 100000 in
set_option maxHeartbeats 3200000 in
theorem back_any (w : World) (B D g N : Nat) (ba : Option Addr) (bc : Nat) (l : List Nat) (h : DeskAt w B D (some ⟨g, 0, none⟩) N l.length (toI (dk l N))) (hn : l.length ≤ N) (hs : Seg .u8 w ba (toI l)) (h256 : ∀ y ∈ l, y < 256) :
    Calls Tryd.prog 17 #[.pointer (some ⟨D, 0, none⟩), .slice ba l.length bc] w fun e w' => e = .returned (.bool true) ∧ Below w.heap.size w w' := by
  have HH : Hid _ := h
  have hN := h.hN
  have HSG : Hid (Seg .u8 w (some ⟨g, 0, none⟩) (toI l)) := by
    obtain ⟨a', c', e', sg, _⟩ := owns_seg h.own
    have ea := (Value.slice.inj e').1
    rw [← ea] at sg
    exact seg_pre sg
  have HSB : Hid (Seg .u8 w ba (toI l)) := hs
  have HC : Hid (∀ k, l.length ≤ k → k < N → ∀ x, Below w.heap.size w x → x.cell? ⟨g, k, none⟩ = some (.int .u8 ((bh k : Nat) : Int))) := fun k h1 h2 x hx => by
    have hd : (dk l N).length = N := dk_len l N hn
    rw [(h.below hx).own.cellAt k (by omega), List.getElem?_map]
    have e1 : (toI (dk l N))[k]? = some ((bh k : Nat) : Int) := by
      unfold toI
      rw [List.getElem?_map]
      have e2 : (dk l N)[k]? = some (bh k) := by
        unfold dk
        rw [List.getElem?_append_right h1, List.getElem?_drop, show l.length + (k - l.length) = k by omega]
        simp [h2]
      rw [e2]; rfl
    rw [e1]; rfl
  obtain ⟨n, hnn⟩ : ∃ n, n = l.length := ⟨_, rfl⟩
  have HN : Hid (l.length = n) := hnn.symm
  have HD : Hid (∀ x, Below w.heap.size w x → x.cell? ⟨D, 0, none⟩ = some (.slice (some ⟨g, 0, none⟩) N N) ∧ x.cell? ⟨D, 1, none⟩ = some (.int .i64 (n : Int))) := fun x hx => ⟨(h.below hx).c0, by rw [hnn]; exact (h.below hx).c1⟩
  have H256 : Hid _ := h256
  rw [← hnn] at hn HC ⊢
  clear h hs hnn h256
  have nN : (n : Int) ≤ (N : Int) := by omega
  go_enter Tryd.func17, Tryd.ntmps17
  go_wp2
  refine MixH.start (fun x => Below w.heap.size w x) (by kernel_rfl) ?_
  obtain ⟨wA, hwA⟩ : ∃ wA, wA = w.drew := ⟨_, rfl⟩
  have hS : Below w.heap.size w wA := by rw [hwA]; exact (Below.refl _ _).drew
  have Q : Hid _ := alike_any (some ⟨g, 0, none⟩) ba N bc l l wA (HSG.out.old hS) (HSB.out.old hS) H256.out H256.out
  rw [decide_eq_true rfl, HN.out] at Q
  rw [← hwA]
  clear hwA
  refine MixH.takes [true, true, true, false, true, true] 16 (by kernel_rfl) (by kernel_rfl) (by decide) (by kernel_rfl) hS (fun K hK => ?_)
  simp only [Mix.pick]
  repeat (go_big_quiet_step (fail))
  refine wpQuiet_nil (hK _ ?_)
  clear hK K
  refine MixH.take 15 3 _ (.int .i64 (n : Int)) rfl (by kernel_rfl) (by kernel_rfl) (by kernel_rfl) (by kernel_rfl) (yields_int (.tmp 8) rfl D 1 (.int .i64 (n : Int)) rfl rfl (fun x h => (HD.out x h).2)) hS (fun a' ha => ?_)
  simp only [Act.put, List.setIfInBounds_toArray, List.set_cons_succ, List.set_cons_zero] at ha
  subst ha
  refine MixH.takes [false, false, false, false, false, false, true, true] 13 (by kernel_rfl) (by kernel_rfl) (by decide) (by kernel_rfl) hS (fun K hK => ?_)
  simp only [Mix.pick]
  repeat (go_big_quiet_step (fail))
  refine wpQuiet_nil (hK _ ?_)
  clear hK K
  refine MixH.takes [false, false, false, false, false, false, false, false, true, true, true, false, true, true, true, false, false, true] 6 (by kernel_rfl) (by kernel_rfl) (by decide) (by kernel_rfl) hS (fun K hK => ?_)
  simp only [Mix.pick]
  repeat (go_big_quiet_step (fail))
  refine wpQuiet_nil (hK _ ?_)
  clear hK K
  refine MixH.take 5 11 _ (.slice (some ⟨g, 0, none⟩) N N) rfl (by kernel_rfl) (by kernel_rfl) (by kernel_rfl) (by kernel_rfl) (yields_bytes (.tmp 16) rfl D 0 (.slice (some ⟨g, 0, none⟩) N N) rfl rfl (fun x h => (HD.out x h).1)) hS (fun a' ha => ?_)
  simp only [Act.put, List.setIfInBounds_toArray, List.set_cons_succ, List.set_cons_zero] at ha
  subst ha
  refine MixH.take 4 15 _ (.int .i64 (n : Int)) rfl (by kernel_rfl) (by kernel_rfl) (by kernel_rfl) (by kernel_rfl) (yields_int (.tmp 20) rfl D 1 (.int .i64 (n : Int)) rfl rfl (fun x h => (HD.out x h).2)) hS (fun a' ha => ?_)
  simp only [Act.put, List.setIfInBounds_toArray, List.set_cons_succ, List.set_cons_zero] at ha
  subst ha
  refine MixH.takes [false, false, false, false, false, false, false, false, false, false, false, false, false, false, false, false, true] 3 (by kernel_rfl) (by kernel_rfl) (by decide) (by kernel_rfl) hS (fun K hK => ?_)
  simp only [Mix.pick]
  repeat (go_big_quiet_step (fail))
  refine wpQuiet_nil (hK _ ?_)
  clear hK K
  refine MixH.one [false, false, false, false, false, false, false, false, false, false, false, false, false, false, false, false, false, false, true] 2 18 _ rfl rfl (by kernel_rfl) (by kernel_rfl) (fun K hK => ?_)
  simp only [Mix.pick]
  go_wp2_with fail
  refine Calls.mono Q.out ?_
  rintro e wN ⟨rfl, rfl⟩
  clear Q
  go_wp2
  refine ⟨rfl, hK _ _ hS ?_⟩
  clear hK K
  refine MixH.takes [false, false, false, false, false, false, false, false, false, false, false, false, false, false, false, false, false, false, false, true, true] 0 (by kernel_rfl) (by kernel_rfl) (by decide) (by kernel_rfl) hS (fun K hK => ?_)
  simp only [Mix.pick]
  repeat (go_big_quiet_step (fail))
  refine wpQuiet_nil (hK _ ?_)
  clear hK K
  refine MixH.done (by kernel_rfl) ?_
  have c1 := (HD.out wA hS).2
  go_wp2
  obtain ⟨wz, hwz⟩ : ∃ wz, wz = wA := ⟨_, rfl⟩
  go_loopw [5] (fun ix wr => ∃ k : Nat, n ≤ k ∧ k ≤ N ∧ ix = .int .i64 k ∧ Below w.heap.size w wr) (fun ix _ => N - (intOf ix).toNat)
  case atStart => exact ⟨n, Nat.le_refl _, hn, rfl, hS⟩
  case round =>
    obtain ⟨k, hk1, hk2, rfl, hb⟩ := hrel
    have c0 := (HD.out wr hb).1
    clear c1
    by_cases hlt : k < N
    · have k0 : (0 : Int) ≤ (k : Int) := by omega
      have k1 : (k : Int) < (N : Int) := by omega
      have k2 : ((k : Int)).toNat = k := by omega
      obtain ⟨y, hy⟩ : ∃ y, y = bh k := ⟨_, rfl⟩
      have hC := HC.out k hk1 hlt
      rw [← hy] at hC
      have HCk : Hid _ := hC
      have QM : Hid (∀ x, Calls Tryd.prog 29 #[.int .i64 (k : Int)] x fun e w' => e = .returned (.int .u8 (y : Int)) ∧ x = w') := fun x => by rw [hy]; exact mark_any k x (by omega)
      have hq : ((y : Int) != (y : Int)) = false := by simp
      clear hC hy
      go_wp2
      refine MixH.start (fun x => Below w.heap.size w x) (by kernel_rfl) ?_
      obtain ⟨wB, hwB⟩ : ∃ wB, wB = wr.drew := ⟨_, rfl⟩
      clear hS
      have hS : Below w.heap.size w wB := by rw [hwB]; exact hb.drew
      rw [← hwB]
      clear hwB hb c0
      refine MixH.takes [true, true, true, false, true, false, false, true] 5 (by kernel_rfl) (by kernel_rfl) (by decide) (by kernel_rfl) hS (fun K hK => ?_)
      simp only [Mix.pick]
      repeat (go_big_quiet_step (fail))
      refine wpQuiet_nil (hK _ ?_)
      clear hK K
      refine MixH.take 4 3 _ (.slice (some ⟨g, 0, none⟩) N N) rfl (by kernel_rfl) (by kernel_rfl) (by kernel_rfl) (by kernel_rfl) (yields_bytes (.tmp 42) rfl D 0 (.slice (some ⟨g, 0, none⟩) N N) rfl rfl (fun x h => (HD.out x h).1)) hS (fun a' ha => ?_)
      simp only [Act.put, List.setIfInBounds_toArray, List.set_cons_succ, List.set_cons_zero] at ha
      subst ha
      refine MixH.takes [false, false, false, false, false, true] 3 (by kernel_rfl) (by kernel_rfl) (by decide) (by kernel_rfl) hS (fun K hK => ?_)
      simp only [Mix.pick]
      repeat (go_big_quiet_step (fail))
      refine wpQuiet_nil (hK _ ?_)
      clear hK K
      refine MixH.take 2 6 _ (.int .u8 (y : Int)) rfl (by kernel_rfl) (by kernel_rfl) (by kernel_rfl) (by kernel_rfl) (yields_u8 (.tmp 45) rfl g k (.int .u8 (y : Int)) rfl rfl (fun x h => HCk.out x h)) hS (fun a' ha => ?_)
      simp only [Act.put, List.setIfInBounds_toArray, List.set_cons_succ, List.set_cons_zero] at ha
      subst ha
      refine MixH.one [false, false, false, false, false, false, false, false, true] 1 8 _ rfl rfl (by kernel_rfl) (by kernel_rfl) (fun K hK => ?_)
      simp only [Mix.pick]
      go_wp2_with fail
      refine Calls.mono (QM.out wB) ?_
      rintro e wN ⟨rfl, rfl⟩
      clear QM
      go_wp2
      refine ⟨rfl, hK _ _ hS ?_⟩
      clear hK K
      refine MixH.takes [false, false, false, false, false, false, false, false, false, true] 0 (by kernel_rfl) (by kernel_rfl) (by decide) (by kernel_rfl) hS (fun K hK => ?_)
      simp only [Mix.pick]
      repeat (go_big_quiet_step (fail))
      refine wpQuiet_nil (hK _ ?_)
      clear hK K
      refine MixH.done (by kernel_rfl) ?_
      go_wp2
      go_roundw
      case rel => exact ⟨k + 1, by omega, by omega, by go_num, hS⟩
      case measure => simp [intOf]; omega
    · have hni : ¬ ((k : Int) < (N : Int)) := by omega
      clear hlt
      go_wp2
      go_ret
      exact ⟨rfl, hb⟩
end Go.Proofs.YtfoeepbndfnifaaDoor.Dk
namespace Go.Proofs.YtfoeepbndfnifaaDoor.Dk
open Go.RowKit

theorem DeskAt.set {w : World} {B D N n g : Nat} {xs : List Int} (h : DeskAt w B D (some ⟨g, 0, none⟩) N n xs) (k : Nat) (hk : k < N) (y : Int) : DeskAt (w.setCell ⟨g, k, none⟩ (.int .u8 y)) B D (some ⟨g, 0, none⟩) N n (xs.set k y) ∧ Ch (fun q => q = g) w (w.setCell ⟨g, k, none⟩ (.int .u8 y)) := by
  obtain ⟨g2, hg2, z2, _, _, NX⟩ := xor_step h.own k hk
  have e2 : g2 = g := by simpa using hg2.symm
  subst e2
  obtain ⟨n1, n2⟩ := NX (.int .u8 y) y rfl
  have nD := h.nD _ rfl
  exact ⟨⟨n2.cell h.c0 (fun e => nD e.symm), n2.cell h.c1 (fun e => nD e.symm), fun j => (n2.frozen (p := ⟨D, j, none⟩) (World.block_lt_of_cell? w ⟨D, 0, none⟩ h.c0) (fun e => nD e.symm)).trans (h.fz j), n1, h.nD, h.hD, h.hN⟩, n2⟩
/-- the room's first k cells bear their marks -/
structure Ld (w wr : World) (B D : Nat) (a : Option Addr) (g M n k : Nat) : Prop where
  at_ : ∃ ys : List Int, DeskAt wr B D (some ⟨g, 0, none⟩) M n ys ∧ ∀ j, j < k → ys[j]? = some ((bh j : Nat) : Int)
  ch : Ch (dB D a) w wr
  old : dB D a g ∨ w.heap.size ≤ g
theorem Ld.drew {w wr : World} {B D : Nat} {a : Option Addr} {g M n k : Nat} (h : Ld w wr B D a g M n k) : Ld w wr.drew B D a g M n k := by
  obtain ⟨ys, h1, h2⟩ := h.at_
  exact ⟨⟨ys, h1.below (Below.refl _ _).drew, h2⟩, h.ch.drew, h.old⟩
theorem Ld.c0 {w wr : World} {B D : Nat} {a : Option Addr} {g M n k : Nat} (h : Ld w wr B D a g M n k) : wr.cell? ⟨D, 0, none⟩ = some (.slice (some ⟨g, 0, none⟩) M M) := by
  obtain ⟨ys, h1, _⟩ := h.at_; exact h1.c0
theorem Ld.next {w wr : World} {B D : Nat} {a : Option Addr} {g M n k : Nat} (h : Ld w wr B D a g M n k) (hk : k < M) : (∃ z : Int, wr.cell? ⟨g, k, none⟩ = some (.int .u8 z)) ∧ wr.frozen? ⟨g, k, none⟩ = false ∧ Ld w (wr.setCell ⟨g, k, none⟩ (.int .u8 ((bh k : Nat) : Int))) B D a g M n (k + 1) := by
  obtain ⟨ys, h1, h2⟩ := h.at_
  obtain ⟨g2, hg2, z2, cz, fz, _⟩ := xor_step h1.own k hk
  have e2 : g2 = g := by simpa using hg2.symm
  subst e2
  obtain ⟨n1, n2⟩ := h1.set k hk ((bh k : Nat) : Int)
  have hl : ys.length = M := by have := h1.own.1; simpa using this
  refine ⟨⟨z2, cz⟩, fz, ⟨_, n1, fun j hj => ?_⟩, ?_, h.old⟩
  · rcases Nat.lt_succ_iff_lt_or_eq.1 hj with e | e
    · rw [List.getElem?_set_ne (by omega)]; exact h2 j e
    · subst e; rw [List.getElem?_set_self (by omega)]
  · refine h.ch.trans n2 (fun x hx e => ?_)
    rcases h.old with o | o
    · rw [e]; exact o
    · omega
theorem Ld.all {w wr : World} {B D : Nat} {a : Option Addr} {g M n : Nat} (h : Ld w wr B D a g M n M) : DeskAt wr B D (some ⟨g, 0, none⟩) M n (toI ((List.range M).map bh)) := by
  obtain ⟨ys, h1, h2⟩ := h.at_
  have hl : ys.length = M := by have := h1.own.1; simpa using this
  have e : ys = toI ((List.range M).map bh) := by
    refine List.ext_getElem? (fun j => ?_)
    by_cases hj : j < M
    · rw [h2 j hj]; simp [toI, hj]
    · rw [List.getElem?_eq_none (by omega), List.getElem?_eq_none (by simp [toI]; omega)]
  rw [← e]; exact h1
/-- what Lend leaves -/
structure Lent (w w' : World) (B D : Nat) (a : Option Addr) (g M : Nat) (l : List Nat) : Prop where
  desk : DeskAt w' B D (some ⟨g, 0, none⟩) M l.length (toI (dk l M))
  ch : Ch (dB D a) w w'
  old : dB D a g ∨ w.heap.size ≤ g
  le : l.length ≤ M
  big : 70 ≤ M
theorem Lent.of {w wr w3 : World} {B D : Nat} {a : Option Addr} {g M n : Nat} {l : List Nat} (h : Ld w wr B D a g M n M) (hM : l.length ≤ M) (h70 : 70 ≤ M) (hg : w3.heap[g]? = some (.cells (splice ((toI ((List.range M).map bh)).map (Value.int .u8)) 0 ((toI l).map (Value.int .u8))).toArray 5 (0, 0))) (k : Ch (fun q => q = g) wr w3) :
    w3.cell? ⟨D, 0, none⟩ = some (.slice (some ⟨g, 0, none⟩) M M) ∧ w3.cell? ⟨D, 1, none⟩ = some (.int .i64 (n : Int)) ∧ w3.frozen? ⟨D, 1, none⟩ = false ∧ Lent w (w3.setCell ⟨D, 1, none⟩ (.int .i64 (l.length : Int))) B D a g M l := by
  have hA := h.all
  have nD := hA.nD _ rfl
  have hB : B ≤ g := (form0 hA.own).2.1
  have c0 := k.cell hA.c0 (fun e => nD e.symm)
  have c1 := k.cell hA.c1 (fun e => nD e.symm)
  have fz : ∀ j, w3.frozen? ⟨D, j, none⟩ = false := fun j => (k.frozen (p := ⟨D, j, none⟩) (World.block_lt_of_cell? _ ⟨D, 0, none⟩ hA.c0) (fun e => nD e.symm)).trans (hA.fz j)
  have hdl := dk_len l M hM
  have e : splice ((toI ((List.range M).map bh)).map (Value.int .u8)) 0 ((toI l).map (Value.int .u8)) = (toI (dk l M)).map (Value.int .u8) := by
    simp [splice, dk, toI]
  rw [e] at hg
  have own : w3.ownsRow B 5 1 (.slice (some ⟨g, 0, none⟩) M M) M ((toI (dk l M)).map (Value.int .u8)) := to_own hg hB (by simp [toI, hdl]) (by have := hA.hN; unfold maxLen; omega)
  have kS : Ch (fun q => q = D) w3 (w3.setCell ⟨D, 1, none⟩ (.int .i64 (l.length : Int))) := (Ch.refl _ _).set _ _ rfl
  refine ⟨c0, c1, fz 1, ⟨?_, World.cell?_setCell_same _ _ _ c1, fun j => ?_, ?_, hA.nD, hA.hD, hA.hN⟩, ?_, h.old, hM, h70⟩
  · rw [World.cell?_setCell_other _ _ _ _ (by simp)]; exact c0
  · rw [World.frozen?_setCell]; exact fz j
  · refine kS.owns own (fun q hq => ?_)
    have : g = q := by simpa [Value.ownBlock] using hq
    subst this
    exact nD
  · refine (h.ch.trans k (fun x hx e => ?_)).trans kS (fun x hx e => .inl e)
    rcases h.old with o | o
    · rw [e]; exact o
    · omega
theorem ld_new {w w1 : World} {B D : Nat} {a : Option Addr} {N n0 M : Nat} {xs : List Int} (h : DeskAt w B D a N n0 xs) (hB : B ≤ w.heap.size) (hM : M ≤ 2097664) (hgr : w.grownBy w1 none) (hown : w1.ownsRow w.heap.size 5 1 (.slice (some ⟨w.heap.size, 0, none⟩) M M) M (List.replicate M (.int .u8 0))) : Ld w (w1.setCell ⟨D, 0, none⟩ (.slice (some ⟨w.heap.size, 0, none⟩) M M)) B D a w.heap.size M n0 0 := by
  have hDl := World.block_lt_of_cell? w ⟨D, 0, none⟩ h.c0
  have c0 : w1.cell? ⟨D, 0, none⟩ = some (.slice a N N) := hgr.cell h.c0 (by simp)
  have c1 : w1.cell? ⟨D, 1, none⟩ = some (.int .i64 (n0 : Int)) := hgr.cell h.c1 (by simp)
  have fz : ∀ j, w1.frozen? ⟨D, j, none⟩ = false := fun j => by rw [World.frozen?_of_block (hgr.block D hDl (by simp))]; exact h.fz j
  have kS : Ch (fun q => q = D) w1 (w1.setCell ⟨D, 0, none⟩ (.slice (some ⟨w.heap.size, 0, none⟩) M M)) := (Ch.refl _ _).set _ _ rfl
  have own : w1.ownsRow B 5 1 (.slice (some ⟨w.heap.size, 0, none⟩) M M) M ((List.replicate M (0 : Int)).map (Value.int .u8)) := by
    rw [List.map_replicate]; exact owns_mono hown hB
  refine ⟨⟨List.replicate M 0, ⟨World.cell?_setCell_same _ _ _ c0, ?_, fun j => ?_, kS.owns own (fun q hq => ?_), fun g hg => ?_, h.hD, hM⟩, fun j hj => absurd hj (Nat.not_lt_zero _)⟩, ?_, .inr (Nat.le_refl _)⟩
  · rw [World.cell?_setCell_other _ _ _ _ (by simp)]; exact c1
  · rw [World.frozen?_setCell]; exact fz j
  · have : w.heap.size = q := by simpa [Value.ownBlock] using hq
    simp only at hDl
    omega
  · have : w.heap.size = g := by simpa using hg
    simp only at hDl
    omega
  · exact ((Ch.ofGrown hgr).mono (fun _ _ e => by cases e)).trans kS (fun x _ e => .inl e)

set_option maxRecDepth 100000 in
set_option maxHeartbeats 3200000 in
theorem lend_no (w : World) (B D : Nat) (a : Option Addr) (N n0 : Nat) (xs : List Int) (h : DeskAt w B D a N n0 xs) (ba : Option Addr) (bc : Nat) (l : List Nat) (hs : ∀ x, Below B w x → Seg .u8 x ba (toI l)) (hl : l.length ≤ 1048576) (hBw : B ≤ w.heap.size) (ht : 2 * l.length + 70 ≤ N) :
    Calls Tryd.prog 6 #[.pointer (some ⟨D, 0, none⟩), .slice ba l.length bc] w fun e w' => ∃ g M, e = .returned (.slice (some ⟨g, 0, none⟩) l.length M) ∧ Lent w w' B D a g M l := by
  have HS : Hid (∀ x, Below B w x → Seg .u8 x ba (toI l)) := hs
  obtain ⟨n, hn⟩ : ∃ n, n = l.length := ⟨_, rfl⟩
  have HN : Hid (l.length = n) := hn.symm
  have HB : Hid (∀ q, dB D a q → B ≤ q) := fun q hq => by
    rcases hq with e | ⟨y, e1, e2⟩
    · rw [e]; exact h.hD
    · rcases h.own.2 with ⟨e, _⟩ | ⟨g, cap, cur, e, hb, _⟩
      · rw [e1] at e; cases e
      · have e3 := (Value.slice.inj e).1
        rw [e1] at e3
        cases e3
        rw [← e2]; exact hb
  have hN := h.hN
  obtain ⟨g, rfl⟩ : ∃ g, a = some ⟨g, 0, none⟩ := by
    rcases h.own.2 with ⟨e, e0⟩ | ⟨g, cap, cur, e, _⟩
    · omega
    · exact ⟨g, (Value.slice.inj e).1⟩
  obtain ⟨M, hM⟩ : ∃ M, M = N := ⟨_, rfl⟩
  rw [← hM] at h ht hN
  rw [← hn] at ht hl ⊢
  obtain ⟨a, ha⟩ : ∃ a, a = (some ⟨g, 0, none⟩ : Option Addr) := ⟨_, rfl⟩
  have L0 : Hid (Ld w w B D a g M n0 0) := ⟨⟨xs, h, fun j hj => absurd hj (Nat.not_lt_zero _)⟩, Ch.refl _ _, by rw [ha]; exact .inl (.inr ⟨_, rfl, rfl⟩)⟩
  rw [← ha] at HB ⊢
  have c0 := h.c0
  have h70 : 70 ≤ M := by omega
  have hnM : n ≤ M := by omega
  have hd : ¬ ((M : Int) < 2 * (n : Int) + 70) := by omega
  have e1 : IntKind.i64.wrap (2 * (n : Int)) = 2 * (n : Int) := i64_mid _ (by omega) (by omega)
  have e2 : IntKind.i64.wrap (2 * (n : Int) + 70) = 2 * (n : Int) + 70 := i64_mid _ (by omega) (by omega)
  clear h hs hn hM ha
  go_enter Tryd.func6, Tryd.ntmps6
  go_wp2
  go_loopw [5] (fun ix wr => ∃ k : Nat, k ≤ M ∧ ix = .int .i64 k ∧ Hid (Ld w wr B D a g M n0 k)) (fun ix _ => M - (intOf ix).toNat)
  case atStart => exact ⟨0, Nat.zero_le _, rfl, L0⟩
  case round =>
    obtain ⟨k, hk, rfl, ST⟩ := hrel
    clear L0 c0
    have c0 := ST.out.c0
    by_cases hlt : k < M
    · have k0 : (0 : Int) ≤ (k : Int) := by omega
      have k1 : (k : Int) < (M : Int) := by omega
      have k2 : ((k : Int)).toNat = k := by omega
      obtain ⟨y, hy⟩ : ∃ y, y = bh k := ⟨_, rfl⟩
      have QM : Hid (∀ x, Calls Tryd.prog 29 #[.int .i64 (k : Int)] x fun e w' => e = .returned (.int .u8 (y : Int)) ∧ x = w') := fun x => by rw [hy]; exact mark_any k x (by omega)
      have HY : Hid (bh k = y) := hy.symm
      clear hy
      go_wp2
      refine MixH.start (fun x => x.cell? ⟨D, 0, none⟩ = some (.slice (some ⟨g, 0, none⟩) M M)) (by kernel_rfl) ?_
      obtain ⟨wA, hwA⟩ : ∃ wA, wA = wr.drew := ⟨_, rfl⟩
      have SA : Hid (Ld w wA B D a g M n0 k) := by rw [hwA]; exact ST.out.drew
      have hS := SA.out.c0
      rw [← hwA]
      clear hwA ST c0
      refine MixH.takes [true, true, true, false, true, true] 4 (by kernel_rfl) (by kernel_rfl) (by decide) (by kernel_rfl) hS (fun K hK => ?_)
      simp only [Mix.pick]
      repeat (go_big_quiet_step (fail))
      refine wpQuiet_nil (hK _ ?_)
      clear hK K
      refine MixH.take 3 3 _ (.slice (some ⟨g, 0, none⟩) M M) rfl (by kernel_rfl) (by kernel_rfl) (by kernel_rfl) (by kernel_rfl) (yields_bytes (.tmp 35) rfl D 0 (.slice (some ⟨g, 0, none⟩) M M) rfl rfl (fun _ h => h)) hS (fun a' ha => ?_)
      simp only [Act.put, List.setIfInBounds_toArray, List.set_cons_succ, List.set_cons_zero] at ha
      subst ha
      refine MixH.one [false, false, false, false, false, false, true] 2 6 _ rfl rfl (by kernel_rfl) (by kernel_rfl) (fun K hK => ?_)
      simp only [Mix.pick]
      go_wp2_with fail
      refine Calls.mono (QM.out wA) ?_
      rintro e wN ⟨rfl, rfl⟩
      clear QM
      go_wp2
      refine ⟨rfl, hK _ _ hS ?_⟩
      clear hK K
      refine MixH.takes [false, false, false, false, false, false, false, true] 1 (by kernel_rfl) (by kernel_rfl) (by decide) (by kernel_rfl) hS (fun K hK => ?_)
      simp only [Mix.pick]
      repeat (go_big_quiet_step (fail))
      refine wpQuiet_nil (hK _ ?_)
      clear hK K
      refine MixH.one [false, false, false, false, false, false, false, false, true] 0 8 _ rfl rfl (by kernel_rfl) (by kernel_rfl) (fun K hK => ?_)
      simp only [Mix.pick]
      obtain ⟨⟨z, cz⟩, fz, TNN⟩ := SA.out.next hlt
      rw [HY.out] at TNN
      have TN : Hid (Ld w (wA.setCell ⟨g, k, none⟩ (.int .u8 (y : Int))) B D a g M n0 (k + 1)) := TNN
      clear hS
      have hS := TNN.c0
      clear TNN
      go_wp2
      refine ⟨rfl, hK _ _ hS ?_⟩
      clear hK K
      refine MixH.done (by kernel_rfl) ?_
      go_wp2
      go_roundw
      case rel => exact ⟨k + 1, by omega, by go_num, TN⟩
      case measure => simp [intOf]; omega
    · have hni : ¬ ((k : Int) < (M : Int)) := by omega
      have hkM : k = M := by omega
      clear hlt
      have HLD : Hid (Ld w wr B D a g M n0 M) := by have e := ST.out; rw [hkM] at e; exact e
      have hA := HLD.out.all
      have hg2 := (form0 hA.own).1
      have hSG := HS.out wr (HLD.out.ch.below HB.out hBw)
      obtain ⟨cur, hcur⟩ : ∃ cur, cur = (toI ((List.range M).map bh)).map (Value.int .u8) := ⟨_, rfl⟩
      obtain ⟨cs, hcs⟩ : ∃ cs, cs = (toI l).map (Value.int .u8) := ⟨_, rfl⟩
      rw [← hcur] at hg2
      have HSC : Hid (0 < cs.length → ∃ ad, ba = some ad ∧ ∀ j v, cs[j]? = some v → wr.cell? (ad.add j) = some v) := by rw [hcs]; exact seg_cells hSG
      have HCL : Hid (cs.length = n) := by rw [hcs, ← HN.out]; show _ = _; simp [toI]
      have HUL : Hid (cur.length = M) := by rw [hcur]; show _ = _; simp [toI]
      have HC1 : Hid (∀ v ∈ cs, v.oneCell' = true) := by
        rw [hcs]; intro v hv
        obtain ⟨z, _, rfl⟩ := List.mem_map.1 hv
        rfl
      have HCU : Hid (cur = (toI ((List.range M).map bh)).map (Value.int .u8)) := hcur
      have HCS : Hid (cs = (toI l).map (Value.int .u8)) := hcs
      clear hA hSG hcur hcs hkM ST
      go_wp2_with (first | (refine wpList_copy_ch rfl _ _ 25 25 rfl 5 Tryd.underlying25 Tryd.sizeByte _ _ _ _ _ _ rfl rfl g 0 cur 5 hg2 cs (by rw [HCL.out]; show n = min n M; omega) (fun h0 => ⟨rfl, HSC.out h0⟩) (by rw [HCL.out, HUL.out]; omega) HC1.out ?_))
      intro w3 HG3 k5
      have hg3 := HG3.out
      rw [HCU.out, HCS.out] at hg3
      obtain ⟨d0, d1, dz, LT⟩ := Lent.of HLD.out (by rw [HN.out]; omega) h70 hg3 k5
      rw [HN.out] at LT
      have HLT : Hid (Lent w (w3.setCell ⟨D, 1, none⟩ (.int .i64 (n : Int))) B D a g M l) := LT
      have e0 := LT.desk.c0
      clear LT hg3 k5 HG3 hg2 c0
      go_wp2
      go_ret
      exact ⟨g, M, rfl, HLT.out⟩

set_option maxRecDepth 100000 in
set_option maxHeartbeats 3200000 in
theorem lend_yes (w : World) (B D : Nat) (a : Option Addr) (N n0 : Nat) (xs : List Int) (h : DeskAt w B D a N n0 xs) (ba : Option Addr) (bc : Nat) (l : List Nat) (hs : ∀ x, Below B w x → Seg .u8 x ba (toI l)) (hl : l.length ≤ 1048576) (hBw : B ≤ w.heap.size) (ht : N < 2 * l.length + 70) :
    Calls Tryd.prog 6 #[.pointer (some ⟨D, 0, none⟩), .slice ba l.length bc] w fun e w' => ∃ g M, e = .returned (.slice (some ⟨g, 0, none⟩) l.length M) ∧ Lent w w' B D a g M l := by
  have HS : Hid (∀ x, Below B w x → Seg .u8 x ba (toI l)) := hs
  obtain ⟨n, hn⟩ : ∃ n, n = l.length := ⟨_, rfl⟩
  have HN : Hid (l.length = n) := hn.symm
  have HB : Hid (∀ q, dB D a q → B ≤ q) := fun q hq => by
    rcases hq with e | ⟨y, e1, e2⟩
    · rw [e]; exact h.hD
    · rcases h.own.2 with ⟨e, _⟩ | ⟨g, cap, cur, e, hb, _⟩
      · rw [e1] at e; cases e
      · have e3 := (Value.slice.inj e).1
        rw [e1] at e3
        cases e3
        rw [← e2]; exact hb
  rw [← hn] at ht hl ⊢
  obtain ⟨M, hM⟩ : ∃ M, M = 2 * n + 512 := ⟨_, rfl⟩
  obtain ⟨g, hg⟩ : ∃ g, g = w.heap.size := ⟨_, rfl⟩
  obtain ⟨i0, hii, hz0, hz1, hz2⟩ := info_parts Tryd.infoByte
  have h70 : 70 ≤ M := by omega
  have hnM : n ≤ M := by omega
  have c0 := h.c0
  have f0 := h.fz 0
  have hd : (N : Int) < 2 * (n : Int) + 70 := by omega
  have e1 : IntKind.i64.wrap (2 * (n : Int)) = 2 * (n : Int) := i64_mid _ (by omega) (by omega)
  have e2 : IntKind.i64.wrap (2 * (n : Int) + 70) = 2 * (n : Int) + 70 := i64_mid _ (by omega) (by omega)
  have e3 : IntKind.i64.wrap (2 * (n : Int) + 512) = (M : Int) := by rw [i64_mid _ (by omega) (by omega)]; omega
  have HH : Hid (DeskAt w B D a N n0 xs) := h
  have HM : Hid (M = 2 * n + 512) := hM
  have HG : Hid (g = w.heap.size) := hg
  have hM2 : M ≤ 2097664 := by omega
  clear h hs hn hM
  go_enter Tryd.func6, Tryd.ntmps6
  go_wp2_with (first | (at_make; refine wpList_make_full _ rfl _ _ 25 rfl w.heap.size 5 i0 (.int .u8 0) 1 Tryd.underlying25 hii hz0 hz1 .i64 .i64 _ _ M rfl rfl rfl rfl (by rw [hz2]; omega) (by unfold maxLen; omega) (Nat.le_refl _) ?_))
  intro w1 hown hgr
  rw [toList_madeCells_one] at hown
  have hDl := World.block_lt_of_cell? w ⟨D, 0, none⟩ c0
  have c1' : w1.cell? ⟨D, 0, none⟩ = some (.slice a N N) := hgr.cell c0 (by simp)
  have f1' : w1.frozen? ⟨D, 0, none⟩ = false := by rw [World.frozen?_of_block (hgr.block D hDl (by simp))]; exact f0
  have L0 : Hid (Ld w (w1.setCell ⟨D, 0, none⟩ (.slice (some ⟨w.heap.size, 0, none⟩) M M)) B D a w.heap.size M n0 0) := ld_new HH.out hBw hM2 hgr hown
  clear c0 f0
  have c0 := L0.out.c0
  rw [← hg] at L0 c0 ⊢
  clear hown hgr hg hDl
  go_wp2
  go_loopw [5] (fun ix wr => ∃ k : Nat, k ≤ M ∧ ix = .int .i64 k ∧ Hid (Ld w wr B D a g M n0 k)) (fun ix _ => M - (intOf ix).toNat)
  case atStart => exact ⟨0, Nat.zero_le _, rfl, L0⟩
  case round =>
    obtain ⟨k, hk, rfl, ST⟩ := hrel
    clear L0 c0
    have c0 := ST.out.c0
    by_cases hlt : k < M
    · have k0 : (0 : Int) ≤ (k : Int) := by omega
      have k1 : (k : Int) < (M : Int) := by omega
      have k2 : ((k : Int)).toNat = k := by omega
      obtain ⟨y, hy⟩ : ∃ y, y = bh k := ⟨_, rfl⟩
      have QM : Hid (∀ x, Calls Tryd.prog 29 #[.int .i64 (k : Int)] x fun e w' => e = .returned (.int .u8 (y : Int)) ∧ x = w') := fun x => by rw [hy]; exact mark_any k x (by omega)
      have HY : Hid (bh k = y) := hy.symm
      clear hy
      go_wp2
      refine MixH.start (fun x => x.cell? ⟨D, 0, none⟩ = some (.slice (some ⟨g, 0, none⟩) M M)) (by kernel_rfl) ?_
      obtain ⟨wA, hwA⟩ : ∃ wA, wA = wr.drew := ⟨_, rfl⟩
      have SA : Hid (Ld w wA B D a g M n0 k) := by rw [hwA]; exact ST.out.drew
      have hS := SA.out.c0
      rw [← hwA]
      clear hwA ST c0
      refine MixH.takes [true, true, true, false, true, true] 4 (by kernel_rfl) (by kernel_rfl) (by decide) (by kernel_rfl) hS (fun K hK => ?_)
      simp only [Mix.pick]
      repeat (go_big_quiet_step (fail))
      refine wpQuiet_nil (hK _ ?_)
      clear hK K
      refine MixH.take 3 3 _ (.slice (some ⟨g, 0, none⟩) M M) rfl (by kernel_rfl) (by kernel_rfl) (by kernel_rfl) (by kernel_rfl) (yields_bytes (.tmp 35) rfl D 0 (.slice (some ⟨g, 0, none⟩) M M) rfl rfl (fun _ h => h)) hS (fun a' ha => ?_)
      simp only [Act.put, List.setIfInBounds_toArray, List.set_cons_succ, List.set_cons_zero] at ha
      subst ha
      refine MixH.one [false, false, false, false, false, false, true] 2 6 _ rfl rfl (by kernel_rfl) (by kernel_rfl) (fun K hK => ?_)
      simp only [Mix.pick]
      go_wp2_with fail
      refine Calls.mono (QM.out wA) ?_
      rintro e wN ⟨rfl, rfl⟩
      clear QM
      go_wp2
      refine ⟨rfl, hK _ _ hS ?_⟩
      clear hK K
      refine MixH.takes [false, false, false, false, false, false, false, true] 1 (by kernel_rfl) (by kernel_rfl) (by decide) (by kernel_rfl) hS (fun K hK => ?_)
      simp only [Mix.pick]
      repeat (go_big_quiet_step (fail))
      refine wpQuiet_nil (hK _ ?_)
      clear hK K
      refine MixH.one [false, false, false, false, false, false, false, false, true] 0 8 _ rfl rfl (by kernel_rfl) (by kernel_rfl) (fun K hK => ?_)
      simp only [Mix.pick]
      obtain ⟨⟨z, cz⟩, fz, TNN⟩ := SA.out.next hlt
      rw [HY.out] at TNN
      have TN : Hid (Ld w (wA.setCell ⟨g, k, none⟩ (.int .u8 (y : Int))) B D a g M n0 (k + 1)) := TNN
      clear hS
      have hS := TNN.c0
      clear TNN
      go_wp2
      refine ⟨rfl, hK _ _ hS ?_⟩
      clear hK K
      refine MixH.done (by kernel_rfl) ?_
      go_wp2
      go_roundw
      case rel => exact ⟨k + 1, by omega, by go_num, TN⟩
      case measure => simp [intOf]; omega
    · have hni : ¬ ((k : Int) < (M : Int)) := by omega
      have hkM : k = M := by omega
      clear hlt
      have HLD : Hid (Ld w wr B D a g M n0 M) := by have e := ST.out; rw [hkM] at e; exact e
      have hA := HLD.out.all
      have hg2 := (form0 hA.own).1
      have hSG := HS.out wr (HLD.out.ch.below HB.out hBw)
      obtain ⟨cur, hcur⟩ : ∃ cur, cur = (toI ((List.range M).map bh)).map (Value.int .u8) := ⟨_, rfl⟩
      obtain ⟨cs, hcs⟩ : ∃ cs, cs = (toI l).map (Value.int .u8) := ⟨_, rfl⟩
      rw [← hcur] at hg2
      have HSC : Hid (0 < cs.length → ∃ ad, ba = some ad ∧ ∀ j v, cs[j]? = some v → wr.cell? (ad.add j) = some v) := by rw [hcs]; exact seg_cells hSG
      have HCL : Hid (cs.length = n) := by rw [hcs, ← HN.out]; show _ = _; simp [toI]
      have HUL : Hid (cur.length = M) := by rw [hcur]; show _ = _; simp [toI]
      have HC1 : Hid (∀ v ∈ cs, v.oneCell' = true) := by
        rw [hcs]; intro v hv
        obtain ⟨z, _, rfl⟩ := List.mem_map.1 hv
        rfl
      have HCU : Hid (cur = (toI ((List.range M).map bh)).map (Value.int .u8)) := hcur
      have HCS : Hid (cs = (toI l).map (Value.int .u8)) := hcs
      clear hA hSG hcur hcs hkM ST
      go_wp2_with (first | (refine wpList_copy_ch rfl _ _ 25 25 rfl 5 Tryd.underlying25 Tryd.sizeByte _ _ _ _ _ _ rfl rfl g 0 cur 5 hg2 cs (by rw [HCL.out]; show n = min n M; omega) (fun h0 => ⟨rfl, HSC.out h0⟩) (by rw [HCL.out, HUL.out]; omega) HC1.out ?_))
      intro w3 HG3 k5
      have hg3 := HG3.out
      rw [HCU.out, HCS.out] at hg3
      obtain ⟨d0, d1, dz, LT⟩ := Lent.of HLD.out (by rw [HN.out]; omega) h70 hg3 k5
      rw [HN.out] at LT
      have HLT : Hid (Lent w (w3.setCell ⟨D, 1, none⟩ (.int .i64 (n : Int))) B D a g M l) := LT
      have e0 := LT.desk.c0
      clear LT hg3 k5 HG3 hg2 c0
      go_wp2
      go_ret
      exact ⟨g, M, rfl, HLT.out⟩

theorem lend_any (w : World) (B D : Nat) (a : Option Addr) (N n0 : Nat) (xs : List Int) (h : DeskAt w B D a N n0 xs) (ba : Option Addr) (bc : Nat) (l : List Nat) (hs : ∀ x, Below B w x → Seg .u8 x ba (toI l)) (hl : l.length ≤ 1048576) (hBw : B ≤ w.heap.size) :
    Calls Tryd.prog 6 #[.pointer (some ⟨D, 0, none⟩), .slice ba l.length bc] w fun e w' => ∃ g M, e = .returned (.slice (some ⟨g, 0, none⟩) l.length M) ∧ Lent w w' B D a g M l := by
  rcases Nat.lt_or_ge N (2 * l.length + 70) with e | e
  · exact lend_yes w B D a N n0 xs h ba bc l hs hl hBw e
  · exact lend_no w B D a N n0 xs h ba bc l hs hl hBw e
end Go.Proofs.YtfoeepbndfnifaaDoor.Dk
namespace Go.Proofs.YtfoeepbndfnifaaDoor.Bk
open Go.RowKit

theorem infoBytes : (Tryd.prog.info? 25).map (fun i => (i.zero, i.size, i.bytes)) = some (some (.slice none 0 0), 1, 24) := by kernel_rfl
theorem seg_at {k : IntKind} {w : World} {a : Option Addr} {l : List Nat} (h : Seg k w a (toI l)) (i : Nat) (hi : i < l.length) : ∃ b off, a = some ⟨b, off, none⟩ ∧ ∀ j, j < l.length → w.cell? ⟨b, off + j, none⟩ = some (.int k ((l.getD j 0 : Nat) : Int)) := by
  rcases h with hnil | ⟨b, off, rfl, hc⟩
  · have := congrArg List.length hnil; rw [toI_len] at this; simp at this; subst this; simp at hi
  · refine ⟨b, off, rfl, fun j hj => ?_⟩
    have := hc j (by rw [toI_len]; exact hj)
    rwa [toI_getD] at this
theorem owns_seg_at {w : World} {base : Nat} {e : TypeId} {g : Option Addr} {n c : Nat} {k : IntKind} {zs : List Int} (h : w.ownsRow base e 1 (.slice g n c) n (zs.map (Value.int k))) : Seg k w g zs ∧ n ≤ c ∧ c ≤ 9223372036854775807 := by
  obtain ⟨a, c', e1, hs, _, h1, h2⟩ := owns_seg h
  simp only [Value.slice.injEq, true_and] at e1
  rw [e1.1, e1.2]
  exact ⟨hs, h1, by unfold maxLen at h2; exact h2⟩
/-- bytes of the call's own -/
abbrev OwnB (w : World) (B : Nat) (v : Value) (n : Nat) (l : List Nat) : Prop := w.ownsRow B 5 1 v n ((toI l).map (Value.int .u8))
theorem OwnB.len {w : World} {B : Nat} {v : Value} {n : Nat} {l : List Nat} (h : OwnB w B v n l) : l.length = n := by have := h.1; simpa [toI] using this
theorem below_grown {A B : World} (h : Below A.heap.size A B) (r : Option Nat) : A.grownBy B r := ⟨h.os, h.tape, h.output, h.size, fun k hk _ => h.block k hk⟩
theorem OwnB.below {A C : World} {B : Nat} {v : Value} {n : Nat} {l : List Nat} (h : OwnB A B v n l) (hB : Below A.heap.size A C) : OwnB C B v n l :=
  h.kept (below_grown hB none) (by cases hv : v.ownBlock <;> simp)
theorem own_form {w : World} {B : Nat} {v : Value} {n : Nat} {l : List Nat} (h : OwnB w B v n l) (hn : 0 < n) : ∃ g c, v = .slice (some ⟨g, 0, none⟩) n c ∧ B ≤ g ∧ g < w.heap.size := by
  rcases h.2 with ⟨_, h0⟩ | ⟨g, cap, cur, rfl, hg, hh, r⟩
  · omega
  · exact ⟨g, cap, rfl, hg, by rcases Nat.lt_or_ge g w.heap.size with h | h; exact h; rw [Array.getElem?_eq_none h] at hh; cases hh⟩
theorem news_at (w : World) (t : TypeId) (xs : List Value) : ∀ j u, xs[j]? = some u → (w.alloc (.cells xs.toArray t)).cell? ((⟨w.heap.size, 0, none⟩ : Addr).add j) = some u := by
  intro j u hu
  rw [Addr.add_lit, Nat.zero_add, World.cell?_alloc_at _ _ _ _ rfl]
  simpa using hu
def mark (i : Nat) : Nat := 1 + i % 251
def rp (n x : Nat) : List Nat := List.replicate n x
def full (c k : Nat) (l : List Nat) : List Nat := List.replicate k c ++ l.drop k
theorem full_set (c k : Nat) (l : List Nat) (h : k < l.length) : (full c k l).set k c = full c (k + 1) l := by
  unfold full
  rw [List.set_append_right _ _ (by simp), List.length_replicate, Nat.sub_self, List.drop_eq_getElem_cons h, List.set_cons_zero, List.replicate_succ']
  simp
theorem full_all (c n : Nat) (l : List Nat) (h : l.length = n) : full c n l = rp n c := by subst h; simp [full, rp]
theorem full_zero (c : Nat) (l : List Nat) : full c 0 l = l := by simp [full]
theorem rp_succ (n x : Nat) : (toI (rp n x)).map (Value.int .u8) ++ [Value.int .u8 (x : Int)] = (toI (rp (n + 1) x)).map (Value.int .u8) := by
  unfold rp; rw [List.replicate_succ']; simp [toI]
/-- a row of bytes that can be read, full of one mark -/
def Rd (w : World) (a : Option Addr) (n x : Nat) : Prop := n = 0 ∨ ∃ g, a = some ⟨g, 0, none⟩ ∧ (∃ c, w.heap[g]? = some (.cells c 5 (0, 0))) ∧ ∀ k, k < n → w.cell? ⟨g, k, none⟩ = some (.int .u8 (x : Int))
theorem Rd.keep {w w' : World} {a : Option Addr} {n x : Nat} {r : Option Nat} (h : Rd w a n x) (hg : w.grownBy w' r) (hne : ∀ g, a = some ⟨g, 0, none⟩ → some g ≠ r) : Rd w' a n x := by
  rcases h with h | ⟨g, rfl, ⟨c, hc⟩, h⟩
  · exact .inl h
  · refine .inr ⟨g, rfl, ⟨c, ?_⟩, fun k hk => hg.cell (h k hk) (hne g rfl)⟩
    rw [hg.block g (Array.getElem?_eq_some_iff.1 hc).1 (hne g rfl)]
    exact hc
theorem Rd.of {w : World} {B : Nat} {a a' : Option Addr} {n n' c c' x : Nat} (h : OwnB w B (.slice a' n' c') n' (rp n' x)) (hn : n ≤ n') (ha : (Value.slice a n c).ownBlock = (Value.slice a' n' c').ownBlock) (hz : ∀ y, a = some y → y = ⟨y.block, 0, none⟩) : Rd w a n x := by
  by_cases h0 : n = 0
  · exact .inl h0
  · rcases h.2 with ⟨_, h1⟩ | ⟨g, cap, cur, hv, hg, hh, r⟩
    · omega
    · have hv' := hv
      simp only [Value.slice.injEq, true_and] at hv
      obtain ⟨rfl, rfl⟩ := hv
      cases a with
      | none => simp [Value.ownBlock] at ha
      | some y =>
        have := hz y rfl
        simp only [Value.ownBlock, Option.some.injEq] at ha
        rw [ha] at this
        subst this
        refine .inr ⟨g, rfl, ⟨cur, hh⟩, fun k hk => ?_⟩
        rw [h.cellAt k (by omega)]
        simp [toI, rp, show k < n' by omega]
theorem Rd.seg {w : World} {a : Option Addr} {n x : Nat} (h : Rd w a n x) : Seg .u8 w a (toI (rp n x)) := by
  rcases h with rfl | ⟨g, rfl, _, h⟩
  · exact .inl rfl
  · refine .inr ⟨g, 0, rfl, fun k hk => ?_⟩
    have hk' : k < n := by simpa [toI, rp] using hk
    rw [Nat.zero_add, h k hk']
    simp [toI, rp, List.getD, hk']
abbrev vv (A : Nat → Option Addr) (C M : Nat → Nat) (j : Nat) : Value := .slice (A j) (M j) (C j)
/-- the lists' blocks -/
def vB (A : Nat → Option Addr) (C M : Nat → Nat) (n q : Nat) : Prop := ∃ j, j < n ∧ (vv A C M j).ownBlock = some q
/-- what does not change: the lists lie apart, among the call's own, at the head of their blocks -/
structure Still (n lb B : Nat) (A : Nat → Option Addr) (C M : Nat → Nat) (w0 : World) (K : Nat) : Prop where
  nK : ∀ j, j < n → (vv A C M j).ownBlock ≠ some K
  lK : K < w0.heap.size
  dis : ∀ i j, i < n → j < n → i ≠ j → (vv A C M i).ownBlock = none ∨ (vv A C M i).ownBlock ≠ (vv A C M j).ownBlock
  nlb : ∀ j, j < n → (vv A C M j).ownBlock ≠ some lb
  head : ∀ j, j < n → ∀ y, A j = some y → y = ⟨y.block, 0, none⟩
  base : ∀ j, j < n → ∀ q, (vv A C M j).ownBlock = some q → B ≤ q ∧ q < w0.heap.size
  lbs : lb < w0.heap.size
  size : B ≤ w0.heap.size
theorem own_head {w : World} {B n c : Nat} {a : Option Addr} {l : List Nat} (h : OwnB w B (.slice a n c) n l) : ∀ y, a = some y → y = ⟨y.block, 0, none⟩ := by
  intro y hy
  rcases h.2 with ⟨h1, _⟩ | ⟨g, cap, cur, h1, _⟩
  · simp only [Value.slice.injEq] at h1; rw [hy] at h1; simp at h1
  · simp only [Value.slice.injEq] at h1; rw [hy] at h1; simp only [Option.some.injEq] at h1; rw [h1.1]
/-- the first loop: each list holds F -/
structure L1 (K : Nat) (kv : Value) (n lb off B : Nat) (A : Nat → Option Addr) (C M : Nat → Nat) (F : Nat → List Nat) (w0 w : World) : Prop where
  kc : w.cell? ⟨K, 0, none⟩ = some kv
  row : ∀ j, j < n → w.cell? ⟨lb, off + j, none⟩ = some (vv A C M j)
  own : ∀ j, j < n → OwnB w B (vv A C M j) (M j) (F j)
  bel : Below B w0 w
  ch : Ch (vB A C M n) w0 w
theorem L1.step {K : Nat} {kv : Value} {n lb off B : Nat} {A : Nat → Option Addr} {C M : Nat → Nat} {F G : Nat → List Nat} {w0 w w' : World} (h : L1 K kv n lb off B A C M F w0 w) (hs : Still n lb B A C M w0 K) {i : Nat} (hi : i < n)
    (ho : OwnB w' B (vv A C M i) (M i) (G i)) (hg : w.grownBy w' (vv A C M i).ownBlock) (hG : ∀ j, j ≠ i → G j = F j) : L1 K kv n lb off B A C M G w0 w' := by
  refine ⟨hg.cell h.kc (fun e => hs.nK i hi e.symm), fun j hj => hg.cell (h.row j hj) (fun e => hs.nlb i hi e.symm), fun j hj => ?_, h.bel.grown hg (Nat.le_trans hs.size h.bel.size) (fun k hk => (hs.base i hi k hk).1), h.ch.trans (Ch.ofGrown hg) (fun _ _ e => ⟨i, hi, e⟩)⟩
  by_cases e : j = i
  · subst e; exact ho
  · rw [hG j e]; exact (h.own j hj).kept hg (hs.dis j i hj hi e)
/-- .. of those ahead of i, marked -/
def mkd (M : Nat → Nat) (L : Nat → List Nat) (i j : Nat) : List Nat := if j < i then rp (M j) (mark j) else L j

/-- the second loop: the lists from i on, the longer ones ahead of i -/
structure L2 (K : Nat) (kv : Value) (n lb off B : Nat) (A : Nat → Option Addr) (C M : Nat → Nat) (i : Nat) (G : Nat → Value) (w0 w : World) : Prop where
  kc : w.cell? ⟨K, 0, none⟩ = some kv
  row : ∀ j, j < n → w.cell? ⟨lb, off + j, none⟩ = some (vv A C M j)
  own : ∀ j, i ≤ j → j < n → OwnB w B (vv A C M j) (M j) (rp (M j) (mark j))
  lon : ∀ j, j < i → OwnB w B (G j) (2 * M j + 70) (rp (2 * M j + 70) (mark j))
  rd : ∀ j, j < i → Rd w (A j) (M j) (mark j)
  sep : ∀ j k, j < i → i ≤ k → k < n → (G j).ownBlock = none ∨ (G j).ownBlock ≠ (vv A C M k).ownBlock
  bel : Below B w0 w
  ch : Ch (vB A C M n) w0 w
theorem L2.step {K : Nat} {kv : Value} {n lb off B : Nat} {A : Nat → Option Addr} {C M : Nat → Nat} {i : Nat} {G : Nat → Value} {w0 w w' : World} (h : L2 K kv n lb off B A C M i G w0 w) (hs : Still n lb B A C M w0 K) (hi : i < n) (g : Value)
    (ho : OwnB w' B g (2 * M i + 70) (rp (2 * M i + 70) (mark i))) (hr : Rd w' (A i) (M i) (mark i)) (hg : w.grownBy w' (vv A C M i).ownBlock)
    (hp : g.ownBlock = (vv A C M i).ownBlock ∨ ∀ q, g.ownBlock = some q → w.heap.size ≤ q) : L2 K kv n lb off B A C M (i + 1) (fun j => if j = i then g else G j) w0 w' := by
  have hsz := h.bel.size
  refine ⟨hg.cell h.kc (fun e => hs.nK i hi e.symm), fun j hj => hg.cell (h.row j hj) (fun e => hs.nlb i hi e.symm), fun j h1 hj => (h.own j (by omega) hj).kept hg (hs.dis j i hj hi (by omega)), fun j hj => ?_, fun j hj => ?_, fun j k hj h1 hk => ?_, h.bel.grown hg (Nat.le_trans hs.size hsz) (fun k hk => (hs.base i hi k hk).1), h.ch.trans (Ch.ofGrown hg) (fun _ _ e => ⟨i, hi, e⟩)⟩
  · by_cases e : j = i
    · subst e; simpa using ho
    · simp only [e, if_false]; exact (h.lon j (by omega)).kept hg (h.sep j i (by omega) (Nat.le_refl _) hi)
  · by_cases e : j = i
    · subst e; exact hr
    · refine (h.rd j (by omega)).keep hg (fun q hq => ?_)
      rcases hs.dis j i (by omega) hi e with h1 | h1
      · simp [vv, hq, Value.ownBlock] at h1
      · simpa [vv, hq, Value.ownBlock] using h1
  · by_cases e : j = i
    · subst e
      simp only [if_true]
      rcases hp with hp | hp
      · rw [hp]; exact hs.dis j k hi hk (by omega)
      · cases hv : g.ownBlock with
        | none => exact .inl rfl
        | some q =>
          refine .inr (fun e => ?_)
          have h2 := hp q hv
          have h3 := (hs.base k hk q e.symm).2
          omega
    · simp only [e, if_false]; exact h.sep j k (by omega) (by omega) hk
/-- .. while the list of the longer ones is lengthened -/
theorem L2.long {K : Nat} {kv : Value} {n lb off B : Nat} {A : Nat → Option Addr} {C M : Nat → Nat} {i m : Nat} {G : Nat → Value} {w0 w w' : World} {v : Value} {xs : List Value} (h : L2 K kv n lb off B A C M i G w0 w) (hs : Still n lb B A C M w0 K)
    (hv : w.ownsRow w0.heap.size 25 1 v m xs) (hg : w.grownBy w' v.ownBlock) : L2 K kv n lb off B A C M i G w0 w' := by
  have hsz := h.bel.size
  refine ⟨hg.cell h.kc (fun e => by have := (hv.lt K e.symm).1; have := hs.lK; omega), fun j hj => hg.cell (h.row j hj) (fun e => ?_), fun j h1 hj => (h.own j h1 hj).kept hg (apart (h.own j h1 hj) hv (by decide)), fun j hj => (h.lon j hj).kept hg (apart (h.lon j hj) hv (by decide)), fun j hj => ?_, h.sep, h.bel.grown hg (Nat.le_trans hs.size hsz) (fun k hk => Nat.le_trans hs.size (hv.lt k hk).1), h.ch.trans (Ch.ofGrown hg) (fun x hx e => absurd hx (by have := (hv.lt x e).1; omega))⟩
  · have := (hv.lt lb e.symm).1
    have := hs.lbs
    omega
  · rcases h.rd j hj with h0 | ⟨g, ha, ⟨c, hc⟩, hcell⟩
    · exact .inl h0
    · refine Rd.keep (.inr ⟨g, ha, ⟨c, hc⟩, hcell⟩) hg (fun q hq e => ?_)
      rw [ha] at hq
      simp only [Option.some.injEq, Addr.mk.injEq, and_true] at hq
      subst hq
      obtain ⟨c', hc'⟩ := kind hv g e.symm
      rw [hc] at hc'
      simp at hc'
theorem L2.alloc {K : Nat} {kv : Value} {n lb off B : Nat} {A : Nat → Option Addr} {C M : Nat → Nat} {i : Nat} {G : Nat → Value} {w0 w : World} (h : L2 K kv n lb off B A C M i G w0 w) (hs : Still n lb B A C M w0 K) (o : Obj) : L2 K kv n lb off B A C M i G w0 (w.alloc o) := by
  have hg := World.grownBy_alloc w o none
  exact ⟨hg.cell h.kc (by simp), fun j hj => hg.cell (h.row j hj) (by simp), fun j h1 hj => (h.own j h1 hj).alloc o, fun j hj => (h.lon j hj).alloc o, fun j hj => (h.rd j hj).keep hg (fun _ _ => by simp), h.sep, h.bel.alloc (Nat.le_trans hs.size h.bel.size) o, h.ch.alloc o⟩
def mi0 (M : Nat → Nat) (i : Nat) : Nat := M i
/-- while one list is lengthened: it still reads as it was, the longer one lies in its row or in a new one -/
structure Inn (wi w : World) (a : Option Addr) (m c x : Nat) (gv : Value) : Prop where
  rd : Rd w a m x
  grow : wi.grownBy w (Value.slice a m c).ownBlock
  old : ∀ q, (Value.slice a m c).ownBlock = some q → q < wi.heap.size
  head : ∀ y, a = some y → y = ⟨y.block, 0, none⟩
  at' : gv.ownBlock = (Value.slice a m c).ownBlock ∨ ∀ q, gv.ownBlock = some q → wi.heap.size ≤ q
theorem Inn.start {w : World} {a : Option Addr} {m c x B : Nat} (h : OwnB w B (.slice a m c) m (rp m x)) (hh : ∀ y, a = some y → y = ⟨y.block, 0, none⟩) : Inn w w a m c x (.slice a m c) :=
  ⟨Rd.of h (Nat.le_refl _) rfl hh, World.grownBy.refl _ _, fun q hq => (h.lt q hq).2, hh, .inl rfl⟩
theorem Inn.step {wi w w' : World} {a : Option Addr} {m c x B n : Nat} {gv gv' : Value} {o : Obj} (h : Inn wi w a m c x gv) (ho : OwnB w' B gv' n (rp n x)) (hn : m ≤ n)
    (hs : ((w.alloc o).grownBy w' none ∧ ∀ q, gv'.ownBlock = some q → (w.alloc o).heap.size ≤ q) ∨ ((w.alloc o).grownBy w' gv.ownBlock ∧ gv'.ownBlock = gv.ownBlock ∧ gv.ownBlock ≠ none)) : Inn wi w' a m c x gv' := by
  have ha : wi.grownBy (w.alloc o) (Value.slice a m c).ownBlock := gtrans h.grow (World.grownBy_alloc w o _)
  have hra : Rd (w.alloc o) a m x := h.rd.keep (World.grownBy_alloc w o none) (fun _ _ => by simp)
  rcases hs with ⟨hg, hq⟩ | ⟨hg, e, hne⟩
  · exact ⟨hra.keep hg (fun _ _ => by simp), gfar ha hg (fun _ h => by simp at h), h.old, h.head, .inr (fun q hq' => Nat.le_trans ha.size (hq q hq'))⟩
  · rcases h.at' with h1 | h1
    · refine ⟨?_, gtrans ha (by rw [← h1]; exact hg), h.old, h.head, .inl (e.trans h1)⟩
      obtain ⟨a', c', rfl⟩ := owns_shape ho
      exact Rd.of ho hn (h1.symm.trans e.symm) h.head
    · refine ⟨hra.keep hg (fun g hg' e' => ?_), gfar ha hg h1, h.old, h.head, .inr (fun q hq => h1 q (e ▸ hq))⟩
      have h2 := h.old g (by rw [hg']; rfl)
      have h3 := h1 g e'.symm
      omega
def R (a b : Value) : Prop := a.ownBlock = none ∨ a.ownBlock ≠ b.ownBlock
theorem R.symm {a b : Value} (h : R a b) : R b a := by
  rcases h with h | h
  · cases hb : b.ownBlock with
    | none => exact .inl hb
    | some q => exact .inr (by rw [h, hb]; simp)
  · exact .inr (fun e => h e.symm)
end Go.Proofs.YtfoeepbndfnifaaDoor.Bk
namespace Go.Proofs.YtfoeepbndfnifaaDoor.Bk
open Go.RowKit

theorem yields_parts {ops : Array Oper} {o : Oper} {a : Act} {S : World → Prop} (x : Operand) (ho : o.op = .load 110 x) (b off : Nat) (u : Value) (hx : a.eval x = .pointer (some ⟨b, off, none⟩)) (hw : Region.wanted o (yielded ops a.tmps) = true) (hS : ∀ w, S w → w.cell? ⟨b, off, none⟩ = some u) : YieldsIf Tryd.prog ops S o u a := by
  refine .inl ⟨hw, fun w hb => ?_⟩
  have hc := hS w hb
  have hu := Tryd.underlying110
  obtain ⟨dst, op, type, pos, after, guard⟩ := o
  simp only at ho
  subst ho
  simp only [execOp, Sem.run_bind, Sem.run_pure]
  rw [hx]
  simp [Instr.loadAt, go_sem, hc]
/-- a list that was handed out, and what it held -/
structure BE where
  a : Option Addr
  c : Nat
  wa : Option Addr
  wc : Nat
  l : List Nat
def BE.v (e : BE) : Value := .slice e.a e.l.length e.c
def BE.u (e : BE) : Value := .slice e.wa e.l.length e.wc
def no : BE := ⟨none, 0, none, 0, []⟩
/-- the book in memory -/
structure BookAt (w : World) (B K : Nat) (vL vW : Value) (E : List BE) : Prop where
  c0 : w.cell? ⟨K, 0, none⟩ = some vL
  c1 : w.cell? ⟨K, 1, none⟩ = some vW
  fz : ∀ j, w.frozen? ⟨K, j, none⟩ = false
  oL : w.ownsRow B 25 1 vL E.length (E.map BE.v)
  oW : w.ownsRow B 25 1 vW E.length (E.map BE.u)
  own : ∀ e ∈ E, OwnB w B e.v e.l.length e.l
  ownW : ∀ e ∈ E, OwnB w B e.u e.l.length e.l
  dis : (E.map BE.v).Pairwise R
  b256 : ∀ e ∈ E, (∀ y ∈ e.l, y < 256) ∧ e.l.length ≤ 65535
  nK : ∀ e ∈ E, e.v.ownBlock ≠ some K ∧ e.u.ownBlock ≠ some K
  nL : vL.ownBlock ≠ some K ∧ vW.ownBlock ≠ some K
  LW : R vL vW
  hK : B ≤ K
/-- its blocks -/
def bB (K : Nat) (vL vW : Value) (E : List BE) (q : Nat) : Prop := q = K ∨ vL.ownBlock = some q ∨ vW.ownBlock = some q ∨ ∃ e ∈ E, e.v.ownBlock = some q ∨ e.u.ownBlock = some q
variable {w w' : World} {B K : Nat} {vL vW : Value} {E : List BE}
theorem BookAt.ch {T : Nat → Prop} (h : BookAt w B K vL vW E) (k : Ch T w w') (hT : ∀ q, bB K vL vW E q → ¬ T q) : BookAt w' B K vL vW E :=
  ⟨k.cell h.c0 (hT K (.inl rfl)), k.cell h.c1 (hT K (.inl rfl)), fun j => (k.frozen (p := ⟨K, j, none⟩) (World.block_lt_of_cell? w ⟨K, 0, none⟩ h.c0) (hT K (.inl rfl))).trans (h.fz j), k.owns h.oL (fun g hg => hT g (.inr (.inl hg))), k.owns h.oW (fun g hg => hT g (.inr (.inr (.inl hg)))),
    fun e he => k.owns (h.own e he) (fun g hg => hT g (.inr (.inr (.inr ⟨e, he, .inl hg⟩)))), fun e he => k.owns (h.ownW e he) (fun g hg => hT g (.inr (.inr (.inr ⟨e, he, .inr hg⟩)))), h.dis, h.b256, h.nK, h.nL, h.LW, h.hK⟩
theorem BookAt.below (h : BookAt w B K vL vW E) (k : Below w.heap.size w w') : BookAt w' B K vL vW E := h.ch (Ch.ofBelow (S := fun _ => False) k) (fun _ _ => id)
theorem BookAt.lt (h : BookAt w B K vL vW E) (q : Nat) (hq : bB K vL vW E q) : B ≤ q ∧ q < w.heap.size := by
  rcases hq with rfl | hq | hq | ⟨e, he, hq | hq⟩
  · exact ⟨h.hK, World.block_lt_of_cell? w ⟨q, 0, none⟩ h.c0⟩
  · exact h.oL.lt q hq
  · exact h.oW.lt q hq
  · exact (h.own e he).lt q hq
  · exact (h.ownW e he).lt q hq
theorem BookAt.at (h : BookAt w B K vL vW E) (i : Nat) (hi : i < E.length) : ∃ gl cl gw cw, vL = .slice (some ⟨gl, 0, none⟩) E.length cl ∧ vW = .slice (some ⟨gw, 0, none⟩) E.length cw ∧ ∀ x, Below w.heap.size w x → x.cell? ⟨gl, i, none⟩ = some (E[i].v) ∧ x.cell? ⟨gw, i, none⟩ = some (E[i].u) := by
  obtain ⟨gl, cl, rfl⟩ := Dk.owns_pos h.oL (by omega)
  obtain ⟨gw, cw, rfl⟩ := Dk.owns_pos h.oW (by omega)
  refine ⟨gl, cl, gw, cw, rfl, rfl, fun x hx => ?_⟩
  have h' := h.below hx
  refine ⟨?_, ?_⟩
  · rw [h'.oL.cellAt i (by omega)]; simp [hi]
  · rw [h'.oW.cellAt i (by omega)]; simp [hi]
theorem BookAt.len (h : BookAt w B K vL vW E) : ∃ al cl aw cw, vL = .slice al E.length cl ∧ vW = .slice aw E.length cw := by
  obtain ⟨al, cl, e1⟩ := owns_shape h.oL
  obtain ⟨aw, cw, e2⟩ := owns_shape h.oW
  exact ⟨al, cl, aw, cw, e1, e2⟩
end Go.Proofs.YtfoeepbndfnifaaDoor.Bk
namespace Go.Proofs.YtfoeepbndfnifaaDoor.Bk
open Go.RowKit

theorem news1' (w : World) (t : TypeId) (x : Value) : ∀ j u, ([x] : List Value)[j]? = some u → (w.alloc (.cells #[x] t)).cell? ((⟨w.heap.size, 0, none⟩ : Addr).add j) = some u := news_at w t [x]
theorem ch_grown {x x' : World} {o : Obj} {v u : Value} (hg : ((x.alloc o).grownBy x' none ∧ ∀ q, u.ownBlock = some q → x.heap.size + 1 ≤ q) ∨ ((x.alloc o).grownBy x' v.ownBlock ∧ u.ownBlock = v.ownBlock ∧ ¬ v.ownBlock = none)) : Ch (fun q => v.ownBlock = some q) x x' ∧ ∀ q, u.ownBlock = some q → v.ownBlock = some q ∨ x.heap.size ≤ q := by
  have hA : Below x.heap.size x (x.alloc o) := (Below.refl _ _).alloc (Nat.le_refl _) _
  refine ⟨(Ch.ofBelow (S := fun q => v.ownBlock = some q) hA).trans (T := fun q => v.ownBlock = some q) ?_ (fun q _ e => e), fun q hq => ?_⟩
  · rcases hg with ⟨g, _⟩ | ⟨g, _⟩
    · exact (Ch.ofGrown g).mono (fun q _ e => by cases e)
    · exact (Ch.ofGrown g).mono (fun q _ e => e)
  · rcases hg with ⟨_, g⟩ | ⟨_, g, _⟩
    · exact .inr (by have := g q hq; omega)
    · exact .inl (by rw [← g]; exact hq)
/-- what Keep leaves -/
structure Kept (w w' : World) (B K : Nat) (vL vW vL' vW' : Value) (E : List BE) (e : BE) : Prop where
  bk : BookAt w' B K vL' vW' (E ++ [e])
  ch : Ch (bB K vL vW E) w w'
  new : ∀ q, bB K vL' vW' (E ++ [e]) q → bB K vL vW E q ∨ e.v.ownBlock = some q ∨ w.heap.size ≤ q
theorem keep_fin {w w1 w2 w3 w4 : World} {B K : Nat} {vL vW vL' vW' : Value} {E : List BE} {a wa : Option Addr} {c wc : Nat} {l : List Nat} (h : BookAt w B K vL vW E) (hB : B ≤ w.heap.size) (ho : OwnB w B (.slice a l.length c) l.length l) (h256 : (∀ y ∈ l, y < 256) ∧ l.length ≤ 65535) (hf : ∀ q, (Value.slice a l.length c).ownBlock = some q → ¬ bB K vL vW E q)
    (hb1 : Below w.heap.size w w1) (ho1 : w1.ownsRow w.heap.size 5 1 (.slice wa l.length wc) l.length ((toI l).map (Value.int .u8))) (hL2 : w2.ownsRow B 25 1 vL' (E.length + 1) (E.map BE.v ++ [.slice a l.length c])) (k2 : Ch (fun q => vL.ownBlock = some q) w1 w2) (q2 : ∀ q, vL'.ownBlock = some q → vL.ownBlock = some q ∨ w1.heap.size ≤ q) (k3 : Ch (fun q => q = K) w2 w3)
    (hW4 : w4.ownsRow B 25 1 vW' (E.length + 1) (E.map BE.u ++ [.slice wa l.length wc])) (k4 : Ch (fun q => vW.ownBlock = some q) w3 w4) (q4 : ∀ q, vW'.ownBlock = some q → vW.ownBlock = some q ∨ w3.heap.size ≤ q) (c04 : w4.cell? ⟨K, 0, none⟩ = some vL') (fz4 : ∀ j, w4.frozen? ⟨K, j, none⟩ = false) (c14 : w4.cell? ⟨K, 1, none⟩ = some vW) :
    Kept w (w4.setCell ⟨K, 1, none⟩ vW') B K vL vW vL' vW' E ⟨a, c, wa, wc, l⟩ := by
  have k5 : Ch (fun q => q = K) w4 (w4.setCell ⟨K, 1, none⟩ vW') := (Ch.refl _ w4).set _ _ rfl
  have s1 := hb1.size
  have s2 := k2.size
  have s3 := k3.size
  have s4 := k4.size
  have KL := (h.lt K (.inl rfl)).2
  have bL : ∀ q, vL.ownBlock = some q → q < w.heap.size := fun q hq => (h.oL.lt q hq).2
  have bW : ∀ q, vW.ownBlock = some q → q < w.heap.size := fun q hq => (h.oW.lt q hq).2
  have RLW : ∀ q, vL.ownBlock = some q → ¬ vW.ownBlock = some q := fun q h1 h2 => by
    rcases h.LW with e | e
    · rw [e] at h1; cases h1
    · exact e (by rw [h1, h2])
  have kA : Ch (fun q => q = K ∨ vL.ownBlock = some q ∨ vW.ownBlock = some q) w (w4.setCell ⟨K, 1, none⟩ vW') :=
    ((((Ch.ofBelow (S := fun q => q = K ∨ vL.ownBlock = some q ∨ vW.ownBlock = some q) hb1).trans k2 (fun q _ e => .inr (.inl e))).trans k3 (fun q _ e => .inl e)).trans k4 (fun q _ e => .inr (.inr e))).trans k5 (fun q _ e => .inl e)
  have noL : ∀ {x : World} {bs m : Nat} {v : Value} {ys : List Value}, x.ownsRow bs 5 1 v m ys → x = w → ∀ q, v.ownBlock = some q → ¬ (vL.ownBlock = some q ∨ vW.ownBlock = some q) := by
    intro x bs m v ys hx e q hq hv
    subst e
    rcases hv with hv | hv
    · rcases apart hx h.oL (by decide) with e | e
      · rw [e] at hq; cases hq
      · exact e (by rw [hq, hv])
    · rcases apart hx h.oW (by decide) with e | e
      · rw [e] at hq; cases hq
      · exact e (by rw [hq, hv])
  have nL' : ∀ q, vL'.ownBlock = some q → q ≠ K := fun q hq e => by
    subst e
    rcases q2 q hq with g | g
    · exact h.nL.1 g
    · omega
  have nW' : ∀ q, vW'.ownBlock = some q → q ≠ K := fun q hq e => by
    subst e
    rcases q4 q hq with g | g
    · exact h.nL.2 g
    · omega
  have oL5 : (w4.setCell ⟨K, 1, none⟩ vW').ownsRow B 25 1 vL' (E.length + 1) (E.map BE.v ++ [.slice a l.length c]) :=
    k5.owns (k4.owns (k3.owns hL2 (fun q hq => nL' q hq)) (fun q hq e => by
      rcases q2 q hq with g | g
      · exact RLW q g e
      · have := bW q e; omega)) (fun q hq => nL' q hq)
  have fresh : ∀ q, (Value.slice wa l.length wc).ownBlock = some q → w.heap.size ≤ q := fun q hq => (ho1.lt q hq).1
  have oWn : (w4.setCell ⟨K, 1, none⟩ vW').ownsRow w.heap.size 5 1 (.slice wa l.length wc) l.length ((toI l).map (Value.int .u8)) := by
    have kB : Ch (fun q => q = K ∨ vL.ownBlock = some q ∨ vW.ownBlock = some q) w1 (w4.setCell ⟨K, 1, none⟩ vW') :=
      (((k2.mono (fun q _ e => .inr (.inl e))).trans k3 (fun q _ e => .inl e)).trans k4 (fun q _ e => .inr (.inr e))).trans k5 (fun q _ e => .inl e)
    refine kB.owns ho1 (fun q hq e => ?_)
    have := fresh q hq
    rcases e with e | e | e
    · omega
    · have := bL q e; omega
    · have := bW q e; omega
  have keepV : ∀ {m : Nat} {v : Value} {ys : List Value}, w.ownsRow B 5 1 v m ys → v.ownBlock ≠ some K → (w4.setCell ⟨K, 1, none⟩ vW').ownsRow B 5 1 v m ys := by
    intro m v ys hx hn
    refine kA.owns hx (fun q hq e => ?_)
    rcases e with e | e
    · subst e; exact hn hq
    · exact noL hx rfl q hq e
  have hnew : (Value.slice a l.length c).ownBlock ≠ some K := fun e => hf K e (.inl rfl)
  refine ⟨⟨?_, ?_, ?_, ?_, ?_, ?_, ?_, ?_, ?_, ?_, ?_, ?_, h.hK⟩, kA.mono (fun q _ e => ?_), ?_⟩
  · rw [World.cell?_setCell_other _ _ _ _ (by simp)]; exact c04
  · exact World.cell?_setCell_same _ _ _ c14
  · intro j; rw [World.frozen?_setCell]; exact fz4 j
  · rw [List.length_append, List.map_append]; exact oL5
  · rw [List.length_append, List.map_append]; exact k5.owns hW4 (fun q hq => nW' q hq)
  · intro e he
    rcases List.mem_append.1 he with he | he
    · exact keepV (h.own e he) (h.nK e he).1
    · have e3 : e = ⟨a, c, wa, wc, l⟩ := by simpa using he
      subst e3
      exact keepV ho hnew
  · intro e he
    rcases List.mem_append.1 he with he | he
    · exact keepV (h.ownW e he) (h.nK e he).2
    · have e3 : e = ⟨a, c, wa, wc, l⟩ := by simpa using he
      subst e3
      exact owns_mono oWn hB
  · rw [List.map_append, List.pairwise_append]
    refine ⟨h.dis, by simp, fun x hx y hy => ?_⟩
    obtain ⟨e, he, rfl⟩ := List.mem_map.1 hx
    have e3 : y = Value.slice a l.length c := by simpa [BE.v] using hy
    subst e3
    cases hv : e.v.ownBlock with
    | none => exact .inl hv
    | some q =>
      refine .inr (fun e4 => ?_)
      rw [hv] at e4
      exact hf q e4.symm (.inr (.inr (.inr ⟨e, he, .inl hv⟩)))
  · intro e he
    rcases List.mem_append.1 he with he | he
    · exact h.b256 e he
    · have e3 : e = ⟨a, c, wa, wc, l⟩ := by simpa using he
      subst e3
      exact h256
  · intro e he
    rcases List.mem_append.1 he with he | he
    · exact h.nK e he
    · have e3 : e = ⟨a, c, wa, wc, l⟩ := by simpa using he
      subst e3
      exact ⟨hnew, fun e4 => by have := fresh K e4; omega⟩
  · exact ⟨fun e => nL' K e rfl, fun e => nW' K e rfl⟩
  · cases hv : vL'.ownBlock with
    | none => exact .inl hv
    | some q =>
      refine .inr (fun e4 => ?_)
      rw [hv] at e4
      have hq4 := hL2.lt q hv
      rcases q2 q hv with g | g
      · rcases q4 q e4.symm with g' | g'
        · exact RLW q g g'
        · have := bL q g; omega
      · rcases q4 q e4.symm with g' | g'
        · have := bW q g'; omega
        · omega
  · rcases e with e | e | e
    · exact .inl e
    · exact .inr (.inl e)
    · exact .inr (.inr (.inl e))
  · rintro q (rfl | hq | hq | ⟨e, he, hq⟩)
    · exact .inl (.inl rfl)
    · rcases q2 q hq with g | g
      · exact .inl (.inr (.inl g))
      · exact .inr (.inr (by omega))
    · rcases q4 q hq with g | g
      · exact .inl (.inr (.inr (.inl g)))
      · exact .inr (.inr (by omega))
    · rcases List.mem_append.1 he with he | he
      · exact .inl (.inr (.inr (.inr ⟨e, he, hq⟩)))
      · have e3 : e = ⟨a, c, wa, wc, l⟩ := by simpa using he
        subst e3
        rcases hq with hq | hq
        · exact .inr (.inl hq)
        · exact .inr (.inr (fresh q hq))
end Go.Proofs.YtfoeepbndfnifaaDoor.Bk
namespace Go.Proofs.YtfoeepbndfnifaaDoor.Bk
open Go.RowKit

theorem form {w : World} {B : Nat} {v : Value} {n : Nat} {l : List Nat} (h : OwnB w B v n l) (hn : 0 < n) : ∃ g c, v = .slice (some ⟨g, 0, none⟩) n c ∧ B ≤ g ∧ g < w.heap.size := by
  rcases h.2 with ⟨_, h0⟩ | ⟨g, cap, cur, rfl, hg, hh, r⟩
  · omega
  · exact ⟨g, cap, rfl, hg, (Array.getElem?_eq_some_iff.1 hh).1⟩
theorem toI_set' (l : List Nat) (i x : Nat) : ((toI l).map (Value.int .u8)).set i (.int .u8 (x : Int)) = (toI (l.set i x)).map (Value.int .u8) := by
  simp [toI, List.map_set]
theorem mark_wrap (i : Nat) : IntKind.u8.wrap (1 + (i : Int) % 251) = ((mark i : Nat) : Int) := by
  simp [mark, IntKind.wrap, IntKind.bits, IntKind.signed]; omega
theorem mark_mod (i : Nat) : Int.tmod (i : Int) 251 = (i : Int) % 251 := Int.tmod_eq_emod_of_nonneg (by omega)
theorem getD_val (E : List BE) (j : Nat) (h : j < E.length) : E.getD j no = E[j] := by simp [List.getD, h]
end Go.Proofs.YtfoeepbndfnifaaDoor.Bk
namespace Go.Proofs.YtfoeepbndfnifaaDoor
open Go.RowKit Go.ChangeShapes Go.WideShapes

/-- any number as a place of n -/
def spot (i : Int) (n : Nat) : Nat := (i % (n : Int)).toNat
theorem spot_lt (i : Int) (n : Nat) (h : 0 < n) : spot i n < n := by
  have h1 := Int.emod_lt_of_pos i (show (0 : Int) < (n : Int) by omega)
  have h2 := Int.emod_nonneg i (show (n : Int) ≠ 0 by omega)
  unfold spot; omega
theorem tmod_spot (i : Int) (n : Nat) (h : 0 < n) : (if i.tmod (n : Int) < 0 then i.tmod (n : Int) + (n : Int) else i.tmod (n : Int)) = ((spot i n : Nat) : Int) := by
  have h2 := Int.emod_nonneg i (show (n : Int) ≠ 0 by omega)
  have e : ((spot i n : Nat) : Int) = i % (n : Int) := by unfold spot; omega
  have h1 := Int.emod_lt_of_pos i (show (0 : Int) < (n : Int) by omega)
  rw [e]
  have ht := Int.tmod_eq_emod (a := i) (b := (n : Int))
  split at ht <;> split <;> omega
theorem spot_any (i : Int) (n : Nat) (w : World) (h0 : 0 < n) (hn : n ≤ 1048576) : Calls Tryd.prog 19 #[.int .i64 i, .int .i64 (n : Int)] w fun e w' => e = .returned (.int .i64 ((spot i n : Nat) : Int)) ∧ w = w' := by
  have HE : Hid _ := tmod_spot i n h0
  have hl := Int.tmod_lt_of_pos i (show (0 : Int) < (n : Int) by omega)
  have hg : -(n : Int) < i.tmod (n : Int) := Int.lt_tmod_of_pos i (show (0 : Int) < (n : Int) by omega)
  have e0 : ((n : Int) == 0) = false := by simp; omega
  have e1 : (n : Int) ≠ 0 := by omega
  have e2 : IntKind.i64.wrap (i.tmod (n : Int)) = i.tmod (n : Int) := by simp [IntKind.wrap, IntKind.bits, IntKind.signed]; omega
  by_cases hlt : i.tmod (n : Int) < 0
  · have e3 : IntKind.i64.wrap (i.tmod (n : Int) + (n : Int)) = i.tmod (n : Int) + (n : Int) := by simp [IntKind.wrap, IntKind.bits, IntKind.signed]; omega
    have HR : Hid (i.tmod (n : Int) + (n : Int) = ((spot i n : Nat) : Int)) := by have := HE.out; rwa [if_pos hlt] at this
    clear HE
    go_enter Tryd.func19, Tryd.ntmps19
    go_wp2
    go_ret
    exact ⟨congrArg (fun z => Ending.returned (.int .i64 z)) HR.out, rfl⟩
  · have HR : Hid (i.tmod (n : Int) = ((spot i n : Nat) : Int)) := by have := HE.out; rwa [if_neg hlt] at this
    clear HE
    go_enter Tryd.func19, Tryd.ntmps19
    go_wp2
    go_ret
    exact ⟨congrArg (fun z => Ending.returned (.int .i64 z)) HR.out, rfl⟩
/-- one turn: a place, a byte -/
structure Tn where
  p : Int
  b : Int
def Tn.cells (o : Tn) : List Value := [.int .i64 o.p, .int .i64 o.b]
theorem Tryd.cellsTn' : Tryd.prog.cellsOf 61 = 2 := by kernel_rfl
theorem Tn.cells_len (o : Tn) : o.cells.length = 2 := rfl
section
variable {H : Type} {enc : TypeId × Value → H} {W : World}
set_option maxRecDepth 100000 in
theorem open_tn (fuel : Nat) (cs : List Value) (x : DataW H × List MemPlace) (hf : DataW.trod enc Tryd.prog W 0 (fun _ => true) true fuel 61 cs = some x) (_ : Rows.uptoBulk x.1 ≤ 1048576) : ∃ o : Tn, cs = o.cells ∧ True := by
  obtain ⟨ys, m, _, _, hl, hyl, hel⟩ := DataW.trod_array Tryd.underlying61 hf
  rw [Tryd.cellsTn'] at hl
  have h0 := hel 0 (by decide)
  have h1 := hel 1 (by decide)
  rw [Tryd.cellsI', List.getElem?_eq_getElem (by omega)] at h0 h1
  obtain ⟨p, e0, _, _⟩ := DataW.trod_int Tryd.underlying3 h0
  obtain ⟨b, e1, _, _⟩ := DataW.trod_int Tryd.underlying3 h1
  match cs, hl with
  | [c0, c1], _ =>
    simp at e0 e1
    exact ⟨⟨p, b⟩, by rw [e0, e1]; rfl, trivial⟩
theorem open_turns {fuel : Nat} {a : Option Addr} {len cap : Nat} {d : DataW H} {p : List MemPlace} (hf : DataW.trod enc Tryd.prog W 0 (fun _ => true) true fuel 26 [.slice a len cap] = some (d, p)) (hb : Rows.uptoBulk d ≤ 1048576) :
    ∃ rs : List Tn, rs.length = len ∧ ListG 2 Tn.cells (fun _ => True) W a rs ∧ len ≤ 1048576 :=
  open_list 2 Tn.cells (fun _ => True) Tryd.underlying26 Tryd.cellsTn' (by decide) Tn.cells_len open_tn hf hb
end
end Go.Proofs.YtfoeepbndfnifaaDoor
namespace Go.Proofs.YtfoeepbndfnifaaDoor.Ll
open Go.RowKit

/-- an option's cells: its kind, no data -/
def opC (x : Int) : List Value := [.int .i64 x, .slice none 0 0]
/-- the cells of n such options -/
def opR (n : Nat) (x : Int) : List Value := (List.replicate n (opC x)).flatten
theorem opR_len (n : Nat) (x : Int) : (opR n x).length = n * 2 := by simp [opR, opC]
theorem opR_at (n : Nat) (x : Int) (k : Nat) (h : k < n) : (opR n x)[k * 2]? = some (.int .i64 x) ∧ (opR n x)[k * 2 + 1]? = some (.slice none 0 0) := by
  induction n generalizing k with
  | zero => omega
  | succ n ih =>
    have e : opR (n + 1) x = .int .i64 x :: .slice none 0 0 :: opR n x := by simp [opR, opC, List.replicate_succ]
    rw [e]
    match k with
    | 0 => exact ⟨rfl, rfl⟩
    | k + 1 =>
      rw [show (k + 1) * 2 = k * 2 + 1 + 1 by omega]
      simpa using ih k (by omega)
/-- a list that can be read, of one mark alone -/
def Rd2 (w : World) (a : Option Addr) (n : Nat) (x : Int) : Prop := n = 0 ∨ ∃ g, a = some ⟨g, 0, none⟩ ∧ ∀ k, k < n → w.cell? ⟨g, k * 2, none⟩ = some (.int .i64 x) ∧ w.cell? ⟨g, k * 2 + 1, none⟩ = some (.slice none 0 0)
theorem only_any (a : Option Addr) (n c : Nat) (x : Int) (w : World) (h : Rd2 w a n x) (hn : n ≤ 4611686018427387904) :
    Calls Tryd.prog 42 #[.slice a n c, .int .i64 x] w fun e w' => e = .returned (.bool true) ∧ w = w' := by
  have H : Hid _ := h
  clear h
  go_enter Tryd.func42, Tryd.ntmps42
  go_wp2
  go_loop [5] (fun ix => ∃ k : Nat, ix = .int .i64 k ∧ k ≤ n) (fun ix => n - (intOf ix).toNat)
  case atStart => exact ⟨0, rfl, Nat.zero_le _⟩
  case round =>
    obtain ⟨k, rfl, hk⟩ := hrel
    by_cases hlt : k < n
    · obtain ⟨g, rfl, hc⟩ : ∃ g, a = some ⟨g, 0, none⟩ ∧ ∀ k, k < n → w.cell? ⟨g, k * 2, none⟩ = some (.int .i64 x) ∧ w.cell? ⟨g, k * 2 + 1, none⟩ = some (.slice none 0 0) := by
        rcases H.out with h0 | h0
        · omega
        · exact h0
      obtain ⟨c0, c1⟩ := hc k hlt
      have k0 : (0 : Int) ≤ (k : Int) := by omega
      have k1 : (k : Int) < (n : Int) := by omega
      have k2 : ((k : Int)).toNat = k := by omega
      have wk : IntKind.i64.wrap ((k : Int) + 1) = (k : Int) + 1 := by rw [IntKind.wrap_i64]; omega
      have q : (x != x) = false := by simp
      clear hc
      go_wp2
      go_round
      case rel => exact ⟨k + 1, by go_num, by omega⟩
      case measure => simp [intOf]; omega
    · have hni : ¬ ((k : Int) < (n : Int)) := by omega
      clear hlt
      go_wp2
      go_ret
      exact ⟨rfl, rfl⟩
end Go.Proofs.YtfoeepbndfnifaaDoor.Ll
namespace Go.Proofs.YtfoeepbndfnifaaDoor.Ll
open Go.RowKit
open Bk (R news_at)

theorem infoOpts : (Tryd.prog.info? 43).map (fun i => (i.zero, i.size, i.bytes)) = some (some (.slice none 0 0), 1, 24) := by kernel_rfl
/-- an option that was handed out -/
structure OE where
  k : Int
  a : Option Addr
  n : Nat
  c : Nat
def OE.cs (o : OE) : List Value := [.int .i64 o.k, .slice o.a o.n o.c]
def osC (l : List OE) : List Value := l.flatMap OE.cs
theorem osC_len (l : List OE) : (osC l).length = l.length * 2 := by
  induction l with
  | nil => rfl
  | cons o l ih => simp only [osC, List.flatMap_cons, List.length_append] at ih ⊢; rw [ih]; simp [OE.cs]; omega
theorem osC_one (l : List OE) : ∀ u ∈ osC l, u.oneCell' = true := by
  intro u hu
  simp only [osC, List.mem_flatMap, OE.cs, List.mem_cons, List.not_mem_nil, or_false] at hu
  obtain ⟨o, _, rfl | rfl⟩ := hu <;> rfl
theorem osC_at (l : List OE) (i : Nat) (o : OE) (h : l[i]? = some o) : (osC l)[i * 2]? = some (.int .i64 o.k) ∧ (osC l)[i * 2 + 1]? = some (.slice o.a o.n o.c) := by
  induction l generalizing i with
  | nil => simp at h
  | cons x l ih =>
    have e : osC (x :: l) = .int .i64 x.k :: .slice x.a x.n x.c :: osC l := by simp [osC, OE.cs]
    rw [e]
    match i with
    | 0 => simp at h; subst h; exact ⟨rfl, rfl⟩
    | i + 1 =>
      rw [show (i + 1) * 2 = i * 2 + 1 + 1 by omega]
      simpa using ih i (by simpa using h)
/-- a list of options of the call's own -/
abbrev OwnO (w : World) (B : Nat) (v : Value) (n : Nat) (l : List OE) : Prop := w.ownsRow B 68 2 v n (osC l)
theorem owns_pos' {w : World} {base K : Nat} {e : TypeId} {v : Value} {n : Nat} {xs : List Value} (h : w.ownsRow base e K v n xs) (hn : 0 < n) : ∃ g c, v = .slice (some ⟨g, 0, none⟩) n c := by
  rcases h.2 with ⟨rfl, h0⟩ | ⟨g, cap, cur, rfl, _⟩
  · omega
  · exact ⟨g, cap, rfl⟩
/-- a list that was handed out, and what it held -/
structure BE where
  a : Option Addr
  c : Nat
  wa : Option Addr
  wc : Nat
  l : List OE
def BE.v (e : BE) : Value := .slice e.a e.l.length e.c
def BE.u (e : BE) : Value := .slice e.wa e.l.length e.wc
def no : BE := ⟨none, 0, none, 0, []⟩
/-- the book in memory -/
structure ListsAt (w : World) (B K : Nat) (vL vW : Value) (E : List BE) : Prop where
  c0 : w.cell? ⟨K, 0, none⟩ = some vL
  c1 : w.cell? ⟨K, 1, none⟩ = some vW
  fz : ∀ j, w.frozen? ⟨K, j, none⟩ = false
  oL : w.ownsRow B 43 1 vL E.length (E.map BE.v)
  oW : w.ownsRow B 43 1 vW E.length (E.map BE.u)
  own : ∀ e ∈ E, OwnO w B e.v e.l.length e.l
  ownW : ∀ e ∈ E, OwnO w B e.u e.l.length e.l
  dis : (E.map BE.v).Pairwise R
  b256 : ∀ e ∈ E, e.l.length ≤ 65535
  nK : ∀ e ∈ E, e.v.ownBlock ≠ some K ∧ e.u.ownBlock ≠ some K
  nL : vL.ownBlock ≠ some K ∧ vW.ownBlock ≠ some K
  LW : R vL vW
  hK : B ≤ K
/-- its blocks -/
def bB (K : Nat) (vL vW : Value) (E : List BE) (q : Nat) : Prop := q = K ∨ vL.ownBlock = some q ∨ vW.ownBlock = some q ∨ ∃ e ∈ E, e.v.ownBlock = some q ∨ e.u.ownBlock = some q
variable {w w' : World} {B K : Nat} {vL vW : Value} {E : List BE}
theorem ListsAt.ch {T : Nat → Prop} (h : ListsAt w B K vL vW E) (k : Ch T w w') (hT : ∀ q, bB K vL vW E q → ¬ T q) : ListsAt w' B K vL vW E :=
  ⟨k.cell h.c0 (hT K (.inl rfl)), k.cell h.c1 (hT K (.inl rfl)), fun j => (k.frozen (p := ⟨K, j, none⟩) (World.block_lt_of_cell? w ⟨K, 0, none⟩ h.c0) (hT K (.inl rfl))).trans (h.fz j), k.owns h.oL (fun g hg => hT g (.inr (.inl hg))), k.owns h.oW (fun g hg => hT g (.inr (.inr (.inl hg)))),
    fun e he => k.owns (h.own e he) (fun g hg => hT g (.inr (.inr (.inr ⟨e, he, .inl hg⟩)))), fun e he => k.owns (h.ownW e he) (fun g hg => hT g (.inr (.inr (.inr ⟨e, he, .inr hg⟩)))), h.dis, h.b256, h.nK, h.nL, h.LW, h.hK⟩
theorem ListsAt.below (h : ListsAt w B K vL vW E) (k : Below w.heap.size w w') : ListsAt w' B K vL vW E := h.ch (Ch.ofBelow (S := fun _ => False) k) (fun _ _ => id)
theorem ListsAt.lt (h : ListsAt w B K vL vW E) (q : Nat) (hq : bB K vL vW E q) : B ≤ q ∧ q < w.heap.size := by
  rcases hq with rfl | hq | hq | ⟨e, he, hq | hq⟩
  · exact ⟨h.hK, World.block_lt_of_cell? w ⟨q, 0, none⟩ h.c0⟩
  · exact h.oL.lt q hq
  · exact h.oW.lt q hq
  · exact (h.own e he).lt q hq
  · exact (h.ownW e he).lt q hq
theorem ListsAt.at (h : ListsAt w B K vL vW E) (i : Nat) (hi : i < E.length) : ∃ gl cl gw cw, vL = .slice (some ⟨gl, 0, none⟩) E.length cl ∧ vW = .slice (some ⟨gw, 0, none⟩) E.length cw ∧ ∀ x, Below w.heap.size w x → x.cell? ⟨gl, i, none⟩ = some (E[i].v) ∧ x.cell? ⟨gw, i, none⟩ = some (E[i].u) := by
  obtain ⟨gl, cl, rfl⟩ := owns_pos' h.oL (by omega)
  obtain ⟨gw, cw, rfl⟩ := owns_pos' h.oW (by omega)
  refine ⟨gl, cl, gw, cw, rfl, rfl, fun x hx => ?_⟩
  have h' := h.below hx
  refine ⟨?_, ?_⟩
  · rw [h'.oL.cellAt i (by omega)]; simp [hi]
  · rw [h'.oW.cellAt i (by omega)]; simp [hi]
theorem ListsAt.len (h : ListsAt w B K vL vW E) : ∃ al cl aw cw, vL = .slice al E.length cl ∧ vW = .slice aw E.length cw := by
  obtain ⟨al, cl, e1⟩ := owns_shape h.oL
  obtain ⟨aw, cw, e2⟩ := owns_shape h.oW
  exact ⟨al, cl, aw, cw, e1, e2⟩
end Go.Proofs.YtfoeepbndfnifaaDoor.Ll
namespace Go.Proofs.YtfoeepbndfnifaaDoor.Ll
open Go.RowKit
open Bk (R news_at news1' ch_grown)

theorem kind' {K : Nat} {w : World} {B : Nat} {e : TypeId} {v : Value} {n : Nat} {xs : List Value} (h : w.ownsRow B e K v n xs) : ∀ g, v.ownBlock = some g → ∃ c, w.heap[g]? = some (.cells c e (0, 0)) := by
  intro g hg
  rcases h.2 with ⟨rfl, _⟩ | ⟨g', cap, cur, rfl, _, hh, _⟩
  · simp [Value.ownBlock] at hg
  · simp [Value.ownBlock] at hg; subst hg; exact ⟨cur, hh⟩
theorem apart' {w : World} {B B' K K' : Nat} {e e' : TypeId} {v v' : Value} {n n' : Nat} {xs xs' : List Value} (h : w.ownsRow B e K v n xs) (h' : w.ownsRow B' e' K' v' n' xs') (hne : e ≠ e') : v.ownBlock = none ∨ v.ownBlock ≠ v'.ownBlock := by
  cases hv : v.ownBlock with
  | none => exact .inl rfl
  | some g =>
    refine .inr (fun hc => hne ?_)
    obtain ⟨c, hc1⟩ := kind' h g hv
    obtain ⟨c', hc2⟩ := kind' h' g hc.symm
    rw [hc1] at hc2
    simp at hc2
    exact hc2.2
/-- append of a list of options that may be nil -/
theorem append_all {P : Program} {w : World} {ops : Array Oper} {rest : List Oper} {o : Oper} {a : Act} {Q : Exit → Act → World → Prop} (hgd : o.guard = none) (s x : Operand) (t : TypeId)
    (ho : o.op = .call { callee := .builtin .append, args := #[s, x], argTypes := #[t, t] })
    (base : Nat) (e : TypeId) (i : TypeInfo) (z : Value) (bytes : Nat) (ht : P.underlying t = some (.slice e)) (hi : P.info? e = some i) (hz : i.zero = some z)
    (hsize : i.size = 2) (hby : i.bytes = bytes) (hzs : z.cells.size = 2)
    (v : Value) (n : Nat) (xs : List Value) (hs : a.eval s = v) (hown : w.ownsRow base e 2 v n xs)
    (m c : Nat) (ad : Option Addr) (l : List OE) (hx : a.eval x = .slice ad m c) (hm : l.length = m) {B : Nat} {e' : TypeId} (hsrc : w.ownsRow B e' 2 (.slice ad l.length c) l.length (osC l))
    (h63 : n + m ≤ maxLen) (hbytes : (n + m) * bytes ≤ 140737488355328) (hbase : base ≤ w.heap.size)
    (h : ∀ v' w', w'.ownsRow base e 2 v' (n + m) (xs ++ osC l) → (∀ q, v'.ownBlock = some q → v.ownBlock = some q ∨ w.heap.size ≤ q) → w.grownBy w' v.ownBlock → wpList P ops Q rest (a.put o.dst v') w') : wpList P ops Q (o :: rest) a w := by
  rcases hsrc.2 with ⟨hv, h0⟩ | ⟨g, cap, cur, hv, _⟩
  · have e1 := (Value.slice.inj hv).1
    have l0 : l = [] := List.eq_nil_of_length_eq_zero h0
    subst e1 l0
    have hm0 : m = 0 := by simpa using hm.symm
    subst hm0
    refine wpList_plain hgd fun K hK => ?_
    have hrun := run_append_nil (P := P) (w := w) base t o.type e i 2 ht hi v n c xs hown
    unfold Oper.wp
    simp [execOp, ho, resolve, invoke, builtin, hs, hx, hrun, Result.andThen]
    exact hK _ _ (h v w (by simpa [osC] using hown) (fun q hq => .inl hq) ⟨rfl, rfl, rfl, Nat.le_refl _, fun _ _ _ => rfl⟩)
  · have e1 := (Value.slice.inj hv).1
    subst e1
    refine Dk.append_splitK 2 (by decide) hgd s x t ho base e i z bytes ht hi hz hsize hby hzs v n xs hs hown ⟨g, 0, none⟩ m c (osC l) hx (by rw [osC_len, hm]) (fun j u hu => ?_) (osC_one l) h63 hbytes hbase (fun v' w' h1 h2 => ?_)
    · have hj : j < (osC l).length := (List.getElem?_eq_some_iff.1 hu).1
      rw [osC_len] at hj
      rw [Addr.add_lit, Nat.zero_add, hsrc.cellAt j hj]
      exact hu
    · rcases h2 with ⟨g1, g2⟩ | ⟨g1, g2, g3⟩
      · exact h v' w' h1 (fun q hq => .inr (g2 q hq)) ⟨g1.os, g1.tape, g1.output, g1.size, fun j hj _ => g1.block j hj (by simp)⟩
      · exact h v' w' h1 (fun q hq => .inl (by rw [← g2]; exact hq)) g1
/-- what Keep leaves -/
structure Kept (w w' : World) (B K : Nat) (vL vW vL' vW' : Value) (E : List BE) (e : BE) : Prop where
  bk : ListsAt w' B K vL' vW' (E ++ [e])
  ch : Ch (bB K vL vW E) w w'
  new : ∀ q, bB K vL' vW' (E ++ [e]) q → bB K vL vW E q ∨ e.v.ownBlock = some q ∨ w.heap.size ≤ q
theorem keep_fin {w w1 w2 w3 w4 : World} {B K : Nat} {vL vW vL' vW' : Value} {E : List BE} {a wa : Option Addr} {c wc : Nat} {l : List OE} (h : ListsAt w B K vL vW E) (hB : B ≤ w.heap.size) (ho : OwnO w B (.slice a l.length c) l.length l) (h256 : l.length ≤ 65535) (hf : ∀ q, (Value.slice a l.length c).ownBlock = some q → ¬ bB K vL vW E q)
    (hb1 : Below w.heap.size w w1) (ho1 : w1.ownsRow w.heap.size 68 2 (.slice wa l.length wc) l.length (osC l)) (hL2 : w2.ownsRow B 43 1 vL' (E.length + 1) (E.map BE.v ++ [.slice a l.length c])) (k2 : Ch (fun q => vL.ownBlock = some q) w1 w2) (q2 : ∀ q, vL'.ownBlock = some q → vL.ownBlock = some q ∨ w1.heap.size ≤ q) (k3 : Ch (fun q => q = K) w2 w3)
    (hW4 : w4.ownsRow B 43 1 vW' (E.length + 1) (E.map BE.u ++ [.slice wa l.length wc])) (k4 : Ch (fun q => vW.ownBlock = some q) w3 w4) (q4 : ∀ q, vW'.ownBlock = some q → vW.ownBlock = some q ∨ w3.heap.size ≤ q) (c04 : w4.cell? ⟨K, 0, none⟩ = some vL') (fz4 : ∀ j, w4.frozen? ⟨K, j, none⟩ = false) (c14 : w4.cell? ⟨K, 1, none⟩ = some vW) :
    Kept w (w4.setCell ⟨K, 1, none⟩ vW') B K vL vW vL' vW' E ⟨a, c, wa, wc, l⟩ := by
  have k5 : Ch (fun q => q = K) w4 (w4.setCell ⟨K, 1, none⟩ vW') := (Ch.refl _ w4).set _ _ rfl
  have s1 := hb1.size
  have s2 := k2.size
  have s3 := k3.size
  have s4 := k4.size
  have KL := (h.lt K (.inl rfl)).2
  have bL : ∀ q, vL.ownBlock = some q → q < w.heap.size := fun q hq => (h.oL.lt q hq).2
  have bW : ∀ q, vW.ownBlock = some q → q < w.heap.size := fun q hq => (h.oW.lt q hq).2
  have RLW : ∀ q, vL.ownBlock = some q → ¬ vW.ownBlock = some q := fun q h1 h2 => by
    rcases h.LW with e | e
    · rw [e] at h1; cases h1
    · exact e (by rw [h1, h2])
  have kA : Ch (fun q => q = K ∨ vL.ownBlock = some q ∨ vW.ownBlock = some q) w (w4.setCell ⟨K, 1, none⟩ vW') :=
    ((((Ch.ofBelow (S := fun q => q = K ∨ vL.ownBlock = some q ∨ vW.ownBlock = some q) hb1).trans k2 (fun q _ e => .inr (.inl e))).trans k3 (fun q _ e => .inl e)).trans k4 (fun q _ e => .inr (.inr e))).trans k5 (fun q _ e => .inl e)
  have noL : ∀ {x : World} {bs m : Nat} {v : Value} {ys : List Value}, x.ownsRow bs 68 2 v m ys → x = w → ∀ q, v.ownBlock = some q → ¬ (vL.ownBlock = some q ∨ vW.ownBlock = some q) := by
    intro x bs m v ys hx e q hq hv
    subst e
    rcases hv with hv | hv
    · rcases apart' hx h.oL (by decide) with e | e
      · rw [e] at hq; cases hq
      · exact e (by rw [hq, hv])
    · rcases apart' hx h.oW (by decide) with e | e
      · rw [e] at hq; cases hq
      · exact e (by rw [hq, hv])
  have nL' : ∀ q, vL'.ownBlock = some q → q ≠ K := fun q hq e => by
    subst e
    rcases q2 q hq with g | g
    · exact h.nL.1 g
    · omega
  have nW' : ∀ q, vW'.ownBlock = some q → q ≠ K := fun q hq e => by
    subst e
    rcases q4 q hq with g | g
    · exact h.nL.2 g
    · omega
  have oL5 : (w4.setCell ⟨K, 1, none⟩ vW').ownsRow B 43 1 vL' (E.length + 1) (E.map BE.v ++ [.slice a l.length c]) :=
    k5.owns (k4.owns (k3.owns hL2 (fun q hq => nL' q hq)) (fun q hq e => by
      rcases q2 q hq with g | g
      · exact RLW q g e
      · have := bW q e; omega)) (fun q hq => nL' q hq)
  have fresh : ∀ q, (Value.slice wa l.length wc).ownBlock = some q → w.heap.size ≤ q := fun q hq => (ho1.lt q hq).1
  have oWn : (w4.setCell ⟨K, 1, none⟩ vW').ownsRow w.heap.size 68 2 (.slice wa l.length wc) l.length (osC l) := by
    have kB : Ch (fun q => q = K ∨ vL.ownBlock = some q ∨ vW.ownBlock = some q) w1 (w4.setCell ⟨K, 1, none⟩ vW') :=
      (((k2.mono (fun q _ e => .inr (.inl e))).trans k3 (fun q _ e => .inl e)).trans k4 (fun q _ e => .inr (.inr e))).trans k5 (fun q _ e => .inl e)
    refine kB.owns ho1 (fun q hq e => ?_)
    have := fresh q hq
    rcases e with e | e | e
    · omega
    · have := bL q e; omega
    · have := bW q e; omega
  have keepV : ∀ {m : Nat} {v : Value} {ys : List Value}, w.ownsRow B 68 2 v m ys → v.ownBlock ≠ some K → (w4.setCell ⟨K, 1, none⟩ vW').ownsRow B 68 2 v m ys := by
    intro m v ys hx hn
    refine kA.owns hx (fun q hq e => ?_)
    rcases e with e | e
    · subst e; exact hn hq
    · exact noL hx rfl q hq e
  have hnew : (Value.slice a l.length c).ownBlock ≠ some K := fun e => hf K e (.inl rfl)
  refine ⟨⟨?_, ?_, ?_, ?_, ?_, ?_, ?_, ?_, ?_, ?_, ?_, ?_, h.hK⟩, kA.mono (fun q _ e => ?_), ?_⟩
  · rw [World.cell?_setCell_other _ _ _ _ (by simp)]; exact c04
  · exact World.cell?_setCell_same _ _ _ c14
  · intro j; rw [World.frozen?_setCell]; exact fz4 j
  · rw [List.length_append, List.map_append]; exact oL5
  · rw [List.length_append, List.map_append]; exact k5.owns hW4 (fun q hq => nW' q hq)
  · intro e he
    rcases List.mem_append.1 he with he | he
    · exact keepV (h.own e he) (h.nK e he).1
    · have e3 : e = ⟨a, c, wa, wc, l⟩ := by simpa using he
      subst e3
      exact keepV ho hnew
  · intro e he
    rcases List.mem_append.1 he with he | he
    · exact keepV (h.ownW e he) (h.nK e he).2
    · have e3 : e = ⟨a, c, wa, wc, l⟩ := by simpa using he
      subst e3
      exact owns_mono oWn hB
  · rw [List.map_append, List.pairwise_append]
    refine ⟨h.dis, by simp, fun x hx y hy => ?_⟩
    obtain ⟨e, he, rfl⟩ := List.mem_map.1 hx
    have e3 : y = Value.slice a l.length c := by simpa [BE.v] using hy
    subst e3
    cases hv : e.v.ownBlock with
    | none => exact .inl hv
    | some q =>
      refine .inr (fun e4 => ?_)
      rw [hv] at e4
      exact hf q e4.symm (.inr (.inr (.inr ⟨e, he, .inl hv⟩)))
  · intro e he
    rcases List.mem_append.1 he with he | he
    · exact h.b256 e he
    · have e3 : e = ⟨a, c, wa, wc, l⟩ := by simpa using he
      subst e3
      exact h256
  · intro e he
    rcases List.mem_append.1 he with he | he
    · exact h.nK e he
    · have e3 : e = ⟨a, c, wa, wc, l⟩ := by simpa using he
      subst e3
      exact ⟨hnew, fun e4 => by have := fresh K e4; omega⟩
  · exact ⟨fun e => nL' K e rfl, fun e => nW' K e rfl⟩
  · cases hv : vL'.ownBlock with
    | none => exact .inl hv
    | some q =>
      refine .inr (fun e4 => ?_)
      rw [hv] at e4
      have hq4 := hL2.lt q hv
      rcases q2 q hv with g | g
      · rcases q4 q e4.symm with g' | g'
        · exact RLW q g g'
        · have := bL q g; omega
      · rcases q4 q e4.symm with g' | g'
        · have := bW q g'; omega
        · omega
  · rcases e with e | e | e
    · exact .inl e
    · exact .inr (.inl e)
    · exact .inr (.inr (.inl e))
  · rintro q (rfl | hq | hq | ⟨e, he, hq⟩)
    · exact .inl (.inl rfl)
    · rcases q2 q hq with g | g
      · exact .inl (.inr (.inl g))
      · exact .inr (.inr (by omega))
    · rcases q4 q hq with g | g
      · exact .inl (.inr (.inr (.inl g)))
      · exact .inr (.inr (by omega))
    · rcases List.mem_append.1 he with he | he
      · exact .inl (.inr (.inr (.inr ⟨e, he, hq⟩)))
      · have e3 : e = ⟨a, c, wa, wc, l⟩ := by simpa using he
        subst e3
        rcases hq with hq | hq
        · exact .inr (.inl hq)
        · exact .inr (.inr (fresh q hq))
set_option maxRecDepth 100000 in
set_option maxHeartbeats 3200000 in
theorem keep_any (w : World) (B K : Nat) (vL vW : Value) (E : List BE) (h : ListsAt w B K vL vW E) (hE : E.length ≤ 1000000) (hB : B ≤ w.heap.size) (a : Option Addr) (c : Nat) (l : List OE) (ho : OwnO w B (.slice a l.length c) l.length l) (h256 : l.length ≤ 65535) (hf : ∀ q, (Value.slice a l.length c).ownBlock = some q → ¬ bB K vL vW E q) :
    Calls Tryd.prog 18 #[.pointer (some ⟨K, 0, none⟩), .slice a l.length c] w fun e w' => e = .returned (.tuple #[]) ∧ ∃ vL' vW' wa wc, Kept w w' B K vL vW vL' vW' E ⟨a, c, wa, wc, l⟩ := by
  obtain ⟨i0, hi, hz0, hz1, hz2⟩ := info_parts Tryd.infoOpt
  obtain ⟨j0, hj, hy0, hy1, hy2⟩ := info_parts infoOpts
  obtain ⟨al, cl, aw, cw, e1, e2⟩ := h.len
  subst e1 e2
  have HB : Hid _ := h
  have HO : Hid (OwnO w B (.slice a l.length c) l.length l) := ho
  have HF : Hid (∀ q, (Value.slice a l.length c).ownBlock = some q → ¬ bB K (.slice al E.length cl) (.slice aw E.length cw) E q) := hf
  have h65 := h256
  have H2 : Hid _ := h256
  obtain ⟨n, hn⟩ : ∃ n, n = l.length := ⟨_, rfl⟩
  have HN : Hid (l.length = n) := hn.symm
  rw [← hn] at h65 ⊢
  obtain ⟨N, hNN⟩ : ∃ N, N = E.length := ⟨_, rfl⟩
  have HNN : Hid (E.length = N) := hNN.symm
  rw [← hNN] at hE
  have HNL : Hid ((osC l).length = n * 2) := by show _ = _; rw [osC_len, hn]
  clear h ho hf h256 hn hNN
  go_enter Tryd.func18, Tryd.ntmps18
  go_wp2_with (first | (at_builtin; refine append_all rfl (.tmp 5) (.tmp 6) 43 rfl w.heap.size 68 i0 (.agg #[.int .i64 0, .slice none 0 0]) 32 Tryd.underlying43 hi hz0 hz1 hz2 rfl (.slice none 0 0) 0 [] rfl (World.ownsRow_nil _ _ _ _) n c a l rfl HN.out HO.out (by unfold maxLen; omega) (by omega) (Nat.le_refl _) ?_))

  intro u1 w1 ho1 _ hg1
  have hb1 : Below w.heap.size w w1 := (Below.refl _ _).grown hg1 (Nat.le_refl _) (by intro k hk; simp [Value.ownBlock] at hk)
  try simp only [Nat.zero_add, List.nil_append] at ho1
  obtain ⟨wa, wc, rfl⟩ := owns_shape ho1
  have bk1 := HB.out.below hb1
  have c01 : w1.cell? ⟨K, 0, none⟩ = some (.slice al N cl) := by rw [← HNN.out]; exact bk1.c0
  have f01 := bk1.fz 0
  have ol1 : (w1.alloc (.cells #[.slice a n c] 43)).ownsRow B 43 1 (.slice al N cl) N (E.map BE.v) := by rw [← HNN.out]; exact bk1.oL.alloc _
  have HB1 : Hid _ := hb1
  have HK1 : Hid _ := bk1
  have HO1 : Hid (w1.ownsRow w.heap.size 68 2 (.slice wa n wc) n (osC l)) := ho1
  have hs1 := hb1.size
  clear ho1 hg1 hb1 bk1
  go_wp2_with (first | (at_builtin; refine Dk.append_splitK 1 (by decide) rfl (.tmp 12) (.tmp 14) 33 rfl B 43 j0 (.slice none 0 0) 24 Tryd.underlying33 hj hy0 hy1 hy2 rfl (.slice al N cl) N (E.map BE.v) rfl ol1 ⟨w1.heap.size, 0, none⟩ 1 1 [.slice a n c] rfl rfl (news1' _ _ _) (by intro u hu; simp at hu; subst hu; rfl) (by unfold maxLen; omega) (by omega) (by simp; omega) ?_))
  intro vL' w2 hoL2 hg2
  obtain ⟨k2, q2⟩ := ch_grown hg2
  obtain ⟨al', cl', hvL⟩ := owns_shape hoL2
  subst hvL
  have HK2 : Hid _ := k2
  have HQ2 : Hid _ := q2
  have HL2 : Hid _ := hoL2
  have nKL : Hid (¬ (Value.slice al N cl).ownBlock = some K) := by rw [← HNN.out]; exact HB.out.nL.1
  have c02 : w2.cell? ⟨K, 0, none⟩ = some (.slice al N cl) := k2.cell c01 nKL.out
  have f02 : w2.frozen? ⟨K, 0, none⟩ = false := (k2.frozen (p := ⟨K, 0, none⟩) (World.block_lt_of_cell? w1 _ c01) nKL.out).trans f01
  have c12 : w2.cell? ⟨K, 1, none⟩ = some (.slice aw N cw) := k2.cell (by rw [← HNN.out]; exact HK1.out.c1) nKL.out
  have f12 : w2.frozen? ⟨K, 1, none⟩ = false := (k2.frozen (p := ⟨K, 1, none⟩) (show K < w1.heap.size from World.block_lt_of_cell? w1 ⟨K, 0, none⟩ c01) nKL.out).trans (HK1.out.fz 1)
  obtain ⟨w3, hw3⟩ : ∃ w3, w3 = w2.setCell ⟨K, 0, none⟩ (.slice al' (N + 1) cl') := ⟨_, rfl⟩
  have k3 : Ch (fun q => q = K) w2 w3 := by rw [hw3]; exact (Ch.refl _ w2).set _ _ rfl
  have HK3 : Hid _ := k3
  have oW3 : w3.ownsRow B 43 1 (.slice aw N cw) N (E.map BE.u) := by
    have h1 := HK1.out.oW
    rw [HNN.out] at h1
    have h2 := k2.owns h1 (fun q hq e => by
      have hr := HB.out.LW
      rw [HNN.out] at hr
      rcases hr with hr | hr
      · rw [hr] at e; cases e
      · exact hr (by rw [e, hq]))
    exact k3.owns h2 (fun q hq e => by have e' : q = K := e; subst e'; have := HB.out.nL.2; rw [HNN.out] at this; exact this hq)
  have ow3 : (w3.alloc (.cells #[.slice wa n wc] 43)).ownsRow B 43 1 (.slice aw N cw) N (E.map BE.u) := oW3.alloc _
  have hsz3 : B ≤ w3.heap.size := by have := k2.size; have := k3.size; omega
  have c13 : w3.cell? ⟨K, 1, none⟩ = some (.slice aw N cw) := by rw [hw3, World.cell?_setCell_other _ _ _ _ (by simp)]; exact c12
  have f13 : w3.frozen? ⟨K, 1, none⟩ = false := by rw [hw3, World.frozen?_setCell]; exact f12
  have c03 : w3.cell? ⟨K, 0, none⟩ = some (.slice al' (N + 1) cl') := by rw [hw3]; exact World.cell?_setCell_same _ _ _ c02
  have fz3 : ∀ j, w3.frozen? ⟨K, j, none⟩ = false := fun j => by
    rw [hw3, World.frozen?_setCell]
    exact (HK2.out.frozen (p := ⟨K, j, none⟩) (show K < w1.heap.size from World.block_lt_of_cell? w1 ⟨K, 0, none⟩ c01) nKL.out).trans (HK1.out.fz j)
  have HC3 : Hid (w3.cell? ⟨K, 0, none⟩ = some (.slice al' (N + 1) cl') ∧ ∀ j, w3.frozen? ⟨K, j, none⟩ = false) := ⟨c03, fz3⟩
  have HW3 : Hid (w2.setCell ⟨K, 0, none⟩ (.slice al' (N + 1) cl') = w3) := hw3.symm
  clear hoL2 hg2 k2 q2 c01 f01 ol1 oW3 k3 c12 f12 hw3 c03 fz3
  go_upto_region 3 with fail
  rw [HW3.out]
  go_wp2_with (first | (at_builtin; refine Dk.append_splitK 1 (by decide) rfl (.tmp 22) (.tmp 24) 33 rfl B 43 j0 (.slice none 0 0) 24 Tryd.underlying33 hj hy0 hy1 hy2 rfl (.slice aw N cw) N (E.map BE.u) rfl ow3 ⟨w3.heap.size, 0, none⟩ 1 1 [.slice wa n wc] rfl rfl (news1' _ _ _) (by intro u hu; simp at hu; subst hu; rfl) (by unfold maxLen; omega) (by omega) (by simp; omega) ?_))
  intro vW' w4 hoW4 hg4
  obtain ⟨k4, q4⟩ := ch_grown hg4
  obtain ⟨aw', cw', hvW⟩ := owns_shape hoW4
  subst hvW
  have nKW : Hid (¬ (Value.slice aw N cw).ownBlock = some K) := by rw [← HNN.out]; exact HB.out.nL.2
  have c14 : w4.cell? ⟨K, 1, none⟩ = some (.slice aw N cw) := k4.cell c13 nKW.out
  have f14 : w4.frozen? ⟨K, 1, none⟩ = false := (k4.frozen (p := ⟨K, 1, none⟩) (World.block_lt_of_cell? w3 _ c13) nKW.out).trans f13
  have c04 : w4.cell? ⟨K, 0, none⟩ = some (.slice al' (N + 1) cl') := k4.cell HC3.out.1 nKW.out
  have fz4 : ∀ j, w4.frozen? ⟨K, j, none⟩ = false := fun j => (k4.frozen (p := ⟨K, j, none⟩) (show K < w3.heap.size from World.block_lt_of_cell? w3 ⟨K, 0, none⟩ HC3.out.1) nKW.out).trans (HC3.out.2 j)
  have HC4 : Hid (w4.cell? ⟨K, 0, none⟩ = some (.slice al' (N + 1) cl') ∧ ∀ j, w4.frozen? ⟨K, j, none⟩ = false) := ⟨c04, fz4⟩
  have HK4 : Hid _ := k4
  have HQ4 : Hid _ := q4
  have HW4 : Hid _ := hoW4
  have C14 : Hid _ := c14
  clear hg4 k4 q4 hoW4 ow3 c13 f13 c04 fz4 hsz3
  go_wp2
  go_end0
  refine ⟨rfl, .slice al' (N + 1) cl', .slice aw' (N + 1) cw', wa, wc, ?_⟩
  obtain rfl := HNN.out
  obtain rfl := HN.out
  exact keep_fin HB.out hB HO.out H2.out HF.out HB1.out HO1.out HL2.out HK2.out HQ2.out HK3.out HW4.out HK4.out HQ4.out HC4.out.1 HC4.out.2 C14.out
end Go.Proofs.YtfoeepbndfnifaaDoor.Ll
namespace Go.Proofs.YtfoeepbndfnifaaDoor.Ll
open Go.RowKit

theorem yields_lists {ops : Array Oper} {o : Oper} {a : Act} {S : World → Prop} (x : Operand) (ho : o.op = .load 33 x) (b off : Nat) (u : Value) (hx : a.eval x = .pointer (some ⟨b, off, none⟩)) (hw : Region.wanted o (yielded ops a.tmps) = true) (hS : ∀ w, S w → w.cell? ⟨b, off, none⟩ = some u) : YieldsIf Tryd.prog ops S o u a := by
  refine .inl ⟨hw, fun w hb => ?_⟩
  have hc := hS w hb
  have hu := Tryd.underlying33
  obtain ⟨dst, op, type, pos, after, guard⟩ := o
  simp only at ho
  subst ho
  simp only [execOp, Sem.run_bind, Sem.run_pure]
  rw [hx]
  simp [Instr.loadAt, go_sem, hc]
theorem yields_opts {ops : Array Oper} {o : Oper} {a : Act} {S : World → Prop} (x : Operand) (ho : o.op = .load 43 x) (b off : Nat) (u : Value) (hx : a.eval x = .pointer (some ⟨b, off, none⟩)) (hw : Region.wanted o (yielded ops a.tmps) = true) (hS : ∀ w, S w → w.cell? ⟨b, off, none⟩ = some u) : YieldsIf Tryd.prog ops S o u a := by
  refine .inl ⟨hw, fun w hb => ?_⟩
  have hc := hS w hb
  have hu := Tryd.underlying43
  obtain ⟨dst, op, type, pos, after, guard⟩ := o
  simp only at ho
  subst ho
  simp only [execOp, Sem.run_bind, Sem.run_pure]
  rw [hx]
  simp [Instr.loadAt, go_sem, hc]
theorem OwnO.below {A C : World} {B : Nat} {v : Value} {n : Nat} {l : List OE} (h : OwnO A B v n l) (hB : Below A.heap.size A C) : OwnO C B v n l :=
  h.kept (Bk.below_grown hB none) (by cases hv : v.ownBlock <;> simp)
set_option maxRecDepth 100000 in
set_option maxHeartbeats 3200000 in
theorem untouched_any (w : World) (B K : Nat) (vL vW : Value) (E : List BE) (h : ListsAt w B K vL vW E) (hE : E.length ≤ 1000000) :
    Calls Tryd.prog 20 #[.pointer (some ⟨K, 0, none⟩)] w fun e w' => e = .returned (.bool true) ∧ Below w.heap.size w w' := by
  have HB : Hid _ := h
  obtain ⟨al, cl, aw, cw, e1, e2⟩ := h.len
  have c0 := h.c0
  rw [e1] at c0
  have HC : Hid (∀ x, Below w.heap.size w x → x.cell? ⟨K, 0, none⟩ = some (.slice al E.length cl) ∧ x.cell? ⟨K, 1, none⟩ = some (.slice aw E.length cw)) := fun x hx => ⟨by rw [← e1]; exact (h.below hx).c0, by rw [← e2]; exact (h.below hx).c1⟩
  have HE : Hid (vL = .slice al E.length cl ∧ vW = .slice aw E.length cw) := ⟨e1, e2⟩
  obtain ⟨N, hN⟩ : ∃ N, N = E.length := ⟨_, rfl⟩
  have HN : Hid (E.length = N) := hN.symm
  rw [← hN] at c0 hE HC HE
  clear h e1 e2 hN
  go_enter Tryd.func20, Tryd.ntmps20
  go_wp2
  go_loopw [3] (fun ix wr => ∃ k : Nat, k ≤ N ∧ ix = .int .i64 k ∧ Below w.heap.size w wr) (fun ix _ => N - (intOf ix).toNat)
  case atStart => exact ⟨0, Nat.zero_le _, rfl, Below.refl _ _⟩
  case round =>
    obtain ⟨k, hk, rfl, hb⟩ := hrel
    clear c0
    have c0 := (HC.out wr hb).1
    by_cases hlt : k < N
    · obtain ⟨gl, cl', gw, cw', f1, f2, fc⟩ := HB.out.at k (by rw [HN.out]; exact hlt)
      rw [HE.out.1] at f1
      rw [HE.out.2] at f2
      have g1 := (Value.slice.inj f1).1
      have g2 := (Value.slice.inj f2).1
      subst g1 g2
      obtain ⟨e, he⟩ : ∃ e, e = E[k]'(by rw [HN.out]; exact hlt) := ⟨_, rfl⟩
      have hm : e ∈ E := by rw [he]; exact List.getElem_mem _
      have FC0 : Hid (∀ x, Below w.heap.size w x → x.cell? ⟨gl, k, none⟩ = some (.slice e.a e.l.length e.c) ∧ x.cell? ⟨gw, k, none⟩ = some (.slice e.wa e.l.length e.wc)) := fun x hx => by rw [he]; exact fc x hx
      have k0 : (0 : Int) ≤ (k : Int) := by omega
      have k1 : (k : Int) < (N : Int) := by omega
      have k2 : ((k : Int)).toNat = k := by omega
      have wk : IntKind.i64.wrap ((k : Int) + 1) = (k : Int) + 1 := by rw [IntKind.wrap_i64]; omega
      have HM : Hid _ := hm
      have h65 := HB.out.b256 e hm
      obtain ⟨M, hM⟩ : ∃ M, M = e.l.length := ⟨_, rfl⟩
      have HML : Hid (e.l.length = M) := hM.symm
      rw [← hM] at FC0 h65
      clear fc f1 f2 he hm hM
      go_wp2
      go_loopw [4] (fun ix wr => ∃ j : Nat, j ≤ M ∧ ix = .int .i64 j ∧ Below w.heap.size w wr) (fun ix _ => M - (intOf ix).toNat)
      case atStart => exact ⟨0, Nat.zero_le _, rfl, hb⟩
      case round =>
        obtain ⟨j, hj, rfl, hb2⟩ := hrel
        clear c0 hb
        have c0 := (HC.out wr hb2).1
        have cv := (FC0.out wr hb2).1
        by_cases hjl : j < M
        · have OV := HB.out.own e HM.out
          have OU := HB.out.ownW e HM.out
          obtain ⟨gv, cv', ev⟩ := owns_pos' OV (by rw [HML.out]; omega)
          obtain ⟨gu, cu', eu⟩ := owns_pos' OU (by rw [HML.out]; omega)
          have ev1 := (Value.slice.inj ev).1
          have eu1 := (Value.slice.inj eu).1
          obtain ⟨q, hq⟩ : ∃ q, e.l[j]? = some q := ⟨_, List.getElem?_eq_getElem (by rw [HML.out]; exact hjl)⟩
          have FJ0 : ∀ x, Below w.heap.size w x → x.cell? ⟨gv, j * 2, none⟩ = some (.int .i64 q.k) ∧ x.cell? ⟨gv, j * 2 + 1, none⟩ = some (.slice q.a q.n q.c) ∧ x.cell? ⟨gu, j * 2, none⟩ = some (.int .i64 q.k) ∧ x.cell? ⟨gu, j * 2 + 1, none⟩ = some (.slice q.a q.n q.c) := by
            intro x hx
            have O1 := OwnO.below OV hx
            have O2 := OwnO.below OU hx
            rw [ev] at O1
            rw [eu] at O2
            have hl := HML.out
            obtain ⟨z1, z2⟩ := osC_at e.l j q hq
            exact ⟨(O1.cellAt _ (by omega)).trans z1, (O1.cellAt _ (by omega)).trans z2, (O2.cellAt _ (by omega)).trans z1, (O2.cellAt _ (by omega)).trans z2⟩
          obtain ⟨kd, hkd⟩ : ∃ kd, kd = q.k := ⟨_, rfl⟩
          obtain ⟨oa, hoa⟩ : ∃ oa, oa = q.a := ⟨_, rfl⟩
          obtain ⟨on, hon⟩ : ∃ on, on = q.n := ⟨_, rfl⟩
          obtain ⟨oc, hoc⟩ : ∃ oc, oc = q.c := ⟨_, rfl⟩
          have FJ : Hid (∀ x, Below w.heap.size w x → x.cell? ⟨gv, j * 2, none⟩ = some (.int .i64 kd) ∧ x.cell? ⟨gv, j * 2 + 1, none⟩ = some (.slice oa on oc) ∧ x.cell? ⟨gu, j * 2, none⟩ = some (.int .i64 kd) ∧ x.cell? ⟨gu, j * 2 + 1, none⟩ = some (.slice oa on oc)) := by rw [hkd, hoa, hon, hoc]; exact FJ0
          have FC : Hid (∀ x, Below w.heap.size w x → x.cell? ⟨gl, k, none⟩ = some (.slice (some ⟨gv, 0, none⟩) M e.c) ∧ x.cell? ⟨gw, k, none⟩ = some (.slice (some ⟨gu, 0, none⟩) M e.wc)) := by
            have := FC0.out
            rw [show e.a = some ⟨gv, 0, none⟩ from ev1, show e.wa = some ⟨gu, 0, none⟩ from eu1] at this
            exact this
          rw [show e.a = some ⟨gv, 0, none⟩ from ev1] at cv
          have j0 : (0 : Int) ≤ (j : Int) := by omega
          have j1 : (j : Int) < (M : Int) := by omega
          have j2 : ((j : Int)).toNat = j := by omega
          have wj : IntKind.i64.wrap ((j : Int) + 1) = (j : Int) + 1 := by rw [IntKind.wrap_i64]; omega
          have q1 : (kd != kd) = false := by simp
          have q2 : ((on : Int) != (on : Int)) = false := by simp
          clear FJ0 hkd hoa hon hoc ev eu ev1 eu1 OV OU hq
          go_wp2
          refine MixH.start (fun x => Below w.heap.size w x) (by kernel_rfl) ?_
          obtain ⟨wA, hwA⟩ : ∃ wA, wA = wr.drew := ⟨_, rfl⟩
          have hS : Below w.heap.size w wA := by rw [hwA]; exact hb2.drew
          rw [← hwA]
          clear hwA hb2 c0 cv
          refine MixH.takes [true, true, true, false, true, false, false, true, false, false, false, true, true, true, false, true, false, false, true] 40 (by kernel_rfl) (by kernel_rfl) (by decide) (by kernel_rfl) hS (fun K hK => ?_)
          simp only [Mix.pick]
          repeat (go_big_quiet_step (fail))
          refine wpQuiet_nil (hK _ ?_)
          clear hK K
          refine MixH.take 39 3 _ (.slice (some ⟨gl, 0, none⟩) N cl) rfl (by kernel_rfl) (by kernel_rfl) (by kernel_rfl) (by kernel_rfl) (yields_lists (.tmp 28) rfl K 0 (.slice (some ⟨gl, 0, none⟩) N cl) rfl rfl (fun x h => (HC.out x h).1)) hS (fun a' ha => ?_)
          simp only [Act.put, List.setIfInBounds_toArray, List.set_cons_succ, List.set_cons_zero] at ha
          subst ha
          refine MixH.take 38 14 _ (.slice (some ⟨gw, 0, none⟩) N cw) rfl (by kernel_rfl) (by kernel_rfl) (by kernel_rfl) (by kernel_rfl) (yields_lists (.tmp 39) rfl K 1 (.slice (some ⟨gw, 0, none⟩) N cw) rfl rfl (fun x h => (HC.out x h).2)) hS (fun a' ha => ?_)
          simp only [Act.put, List.setIfInBounds_toArray, List.set_cons_succ, List.set_cons_zero] at ha
          subst ha
          refine MixH.takes [false, false, false, false, false, true, false, false, false, false, false, false, false, false, false, false, true] 36 (by kernel_rfl) (by kernel_rfl) (by decide) (by kernel_rfl) hS (fun K hK => ?_)
          simp only [Mix.pick]
          repeat (go_big_quiet_step (fail))
          refine wpQuiet_nil (hK _ ?_)
          clear hK K
          refine MixH.take 35 6 _ (.slice (some ⟨gv, 0, none⟩) M e.c) rfl (by kernel_rfl) (by kernel_rfl) (by kernel_rfl) (by kernel_rfl) (yields_opts (.tmp 31) rfl gl k (.slice (some ⟨gv, 0, none⟩) M e.c) rfl rfl (fun x h => (FC.out x h).1)) hS (fun a' ha => ?_)
          simp only [Act.put, List.setIfInBounds_toArray, List.set_cons_succ, List.set_cons_zero] at ha
          subst ha
          refine MixH.take 34 17 _ (.slice (some ⟨gu, 0, none⟩) M e.wc) rfl (by kernel_rfl) (by kernel_rfl) (by kernel_rfl) (by kernel_rfl) (yields_opts (.tmp 42) rfl gw k (.slice (some ⟨gu, 0, none⟩) M e.wc) rfl rfl (fun x h => (FC.out x h).2)) hS (fun a' ha => ?_)
          simp only [Act.put, List.setIfInBounds_toArray, List.set_cons_succ, List.set_cons_zero] at ha
          subst ha
          refine MixH.takes [false, false, false, false, false, false, false, false, true, true, false, false, false, false, false, false, false, false, false, true, true] 30 (by kernel_rfl) (by kernel_rfl) (by decide) (by kernel_rfl) hS (fun K hK => ?_)
          simp only [Mix.pick]
          repeat (go_big_quiet_step (fail))
          refine wpQuiet_nil (hK _ ?_)
          clear hK K
          refine MixH.take 29 10 _ (.int .i64 kd) rfl (by kernel_rfl) (by kernel_rfl) (by kernel_rfl) (by kernel_rfl) (Dk.yields_int (.tmp 35) rfl gv (j * 2) (.int .i64 kd) rfl rfl (fun x h => (FJ.out x h).1)) hS (fun a' ha => ?_)
          simp only [Act.put, List.setIfInBounds_toArray, List.set_cons_succ, List.set_cons_zero] at ha
          subst ha
          refine MixH.take 28 21 _ (.int .i64 kd) rfl (by kernel_rfl) (by kernel_rfl) (by kernel_rfl) (by kernel_rfl) (Dk.yields_int (.tmp 46) rfl gu (j * 2) (.int .i64 kd) rfl rfl (fun x h => (FJ.out x h).2.2.1)) hS (fun a' ha => ?_)
          simp only [Act.put, List.setIfInBounds_toArray, List.set_cons_succ, List.set_cons_zero] at ha
          subst ha
          refine MixH.takes [false, false, false, false, false, false, false, false, false, false, false, false, false, false, false, false, false, false, false, false, false, false, true, true] 26 (by kernel_rfl) (by kernel_rfl) (by decide) (by kernel_rfl) hS (fun K hK => ?_)
          simp only [Mix.pick]
          repeat (go_big_quiet_step (fail))
          refine wpQuiet_nil (hK _ ?_)
          clear hK K
          refine MixH.takes [false, false, false, false, false, false, false, false, false, false, false, false, false, false, false, false, false, false, false, false, false, false, false, false, true, true, true, false, true, false, false, true, false, false, false, false, true, true, true, false, true, false, false, true] 16 (by kernel_rfl) (by kernel_rfl) (by decide) (by kernel_rfl) hS (fun K hK => ?_)
          simp only [Mix.pick]
          repeat (go_big_quiet_step (fail))
          refine wpQuiet_nil (hK _ ?_)
          clear hK K
          refine MixH.take 15 27 _ (.slice (some ⟨gl, 0, none⟩) N cl) rfl (by kernel_rfl) (by kernel_rfl) (by kernel_rfl) (by kernel_rfl) (yields_lists (.tmp 52) rfl K 0 (.slice (some ⟨gl, 0, none⟩) N cl) rfl rfl (fun x h => (HC.out x h).1)) hS (fun a' ha => ?_)
          simp only [Act.put, List.setIfInBounds_toArray, List.set_cons_succ, List.set_cons_zero] at ha
          subst ha
          refine MixH.take 14 39 _ (.slice (some ⟨gw, 0, none⟩) N cw) rfl (by kernel_rfl) (by kernel_rfl) (by kernel_rfl) (by kernel_rfl) (yields_lists (.tmp 64) rfl K 1 (.slice (some ⟨gw, 0, none⟩) N cw) rfl rfl (fun x h => (HC.out x h).2)) hS (fun a' ha => ?_)
          simp only [Act.put, List.setIfInBounds_toArray, List.set_cons_succ, List.set_cons_zero] at ha
          subst ha
          refine MixH.takes [false, false, false, false, false, false, false, false, false, false, false, false, false, false, false, false, false, false, false, false, false, false, false, false, false, false, false, false, false, true, false, false, false, false, false, false, false, false, false, false, false, true] 12 (by kernel_rfl) (by kernel_rfl) (by decide) (by kernel_rfl) hS (fun K hK => ?_)
          simp only [Mix.pick]
          repeat (go_big_quiet_step (fail))
          refine wpQuiet_nil (hK _ ?_)
          clear hK K
          refine MixH.take 11 30 _ (.slice (some ⟨gv, 0, none⟩) M e.c) rfl (by kernel_rfl) (by kernel_rfl) (by kernel_rfl) (by kernel_rfl) (yields_opts (.tmp 55) rfl gl k (.slice (some ⟨gv, 0, none⟩) M e.c) rfl rfl (fun x h => (FC.out x h).1)) hS (fun a' ha => ?_)
          simp only [Act.put, List.setIfInBounds_toArray, List.set_cons_succ, List.set_cons_zero] at ha
          subst ha
          refine MixH.take 10 42 _ (.slice (some ⟨gu, 0, none⟩) M e.wc) rfl (by kernel_rfl) (by kernel_rfl) (by kernel_rfl) (by kernel_rfl) (yields_opts (.tmp 67) rfl gw k (.slice (some ⟨gu, 0, none⟩) M e.wc) rfl rfl (fun x h => (FC.out x h).2)) hS (fun a' ha => ?_)
          simp only [Act.put, List.setIfInBounds_toArray, List.set_cons_succ, List.set_cons_zero] at ha
          subst ha
          refine MixH.takes [false, false, false, false, false, false, false, false, false, false, false, false, false, false, false, false, false, false, false, false, false, false, false, false, false, false, false, false, false, false, false, false, true, true, false, false, false, false, false, false, false, false, false, false, true, true] 6 (by kernel_rfl) (by kernel_rfl) (by decide) (by kernel_rfl) hS (fun K hK => ?_)
          simp only [Mix.pick]
          repeat (go_big_quiet_step (fail))
          refine wpQuiet_nil (hK _ ?_)
          clear hK K
          refine MixH.take 5 34 _ (.slice oa on oc) rfl (by kernel_rfl) (by kernel_rfl) (by kernel_rfl) (by kernel_rfl) (Dk.yields_bytes (.tmp 59) rfl gv (j * 2 + 1) (.slice oa on oc) rfl rfl (fun x h => (FJ.out x h).2.1)) hS (fun a' ha => ?_)
          simp only [Act.put, List.setIfInBounds_toArray, List.set_cons_succ, List.set_cons_zero] at ha
          subst ha
          refine MixH.take 4 46 _ (.slice oa on oc) rfl (by kernel_rfl) (by kernel_rfl) (by kernel_rfl) (by kernel_rfl) (Dk.yields_bytes (.tmp 71) rfl gu (j * 2 + 1) (.slice oa on oc) rfl rfl (fun x h => (FJ.out x h).2.2.2)) hS (fun a' ha => ?_)
          simp only [Act.put, List.setIfInBounds_toArray, List.set_cons_succ, List.set_cons_zero] at ha
          subst ha
          refine MixH.takes [false, false, false, false, false, false, false, false, false, false, false, false, false, false, false, false, false, false, false, false, false, false, false, false, false, false, false, false, false, false, false, false, false, false, false, true, false, false, false, false, false, false, false, false, false, false, false, true] 2 (by kernel_rfl) (by kernel_rfl) (by decide) (by kernel_rfl) hS (fun K hK => ?_)
          simp only [Mix.pick]
          repeat (go_big_quiet_step (fail))
          refine wpQuiet_nil (hK _ ?_)
          clear hK K
          refine MixH.takes [false, false, false, false, false, false, false, false, false, false, false, false, false, false, false, false, false, false, false, false, false, false, false, false, false, false, false, false, false, false, false, false, false, false, false, false, false, false, false, false, false, false, false, false, false, false, false, false, true] 1 (by kernel_rfl) (by kernel_rfl) (by decide) (by kernel_rfl) hS (fun K hK => ?_)
          simp only [Mix.pick]
          repeat (go_big_quiet_step (fail))
          refine wpQuiet_nil (hK _ ?_)
          clear hK K
          refine MixH.takes [false, false, false, false, false, false, false, false, false, false, false, false, false, false, false, false, false, false, false, false, false, false, false, false, false, false, false, false, false, false, false, false, false, false, false, false, false, false, false, false, false, false, false, false, false, false, false, false, false, true] 0 (by kernel_rfl) (by kernel_rfl) (by decide) (by kernel_rfl) hS (fun K hK => ?_)
          simp only [Mix.pick]
          repeat (go_big_quiet_step (fail))
          refine wpQuiet_nil (hK _ ?_)
          clear hK K
          refine MixH.done (by kernel_rfl) ?_
          go_wp2
          go_roundw
          case rel => exact ⟨j + 1, by omega, by go_num, hS⟩
          case measure => simp [intOf]; omega
        · have hni : ¬ ((j : Int) < (M : Int)) := by omega
          clear hjl
          go_wp2
          go_roundw
          case rel => exact ⟨k + 1, by omega, by go_num, hb2⟩
          case measure => simp [intOf]; omega
    · have hni : ¬ ((k : Int) < (N : Int)) := by omega
      clear hlt
      go_wp2
      go_ret
      exact ⟨rfl, hb⟩
end Go.Proofs.YtfoeepbndfnifaaDoor.Ll
namespace Go.Proofs.YtfoeepbndfnifaaDoor.Ll
open Go.RowKit

def mark (i : Nat) : Int := -1000 - (i : Int)
def oe (x : Int) : OE := ⟨x, none, 0, 0⟩
def rp (n : Nat) (x : Int) : List OE := List.replicate n (oe x)
def full (c : Int) (k : Nat) (l : List OE) : List OE := List.replicate k (oe c) ++ l.drop k
theorem full_set (c : Int) (k : Nat) (l : List OE) (h : k < l.length) : (full c k l).set k (oe c) = full c (k + 1) l := by
  unfold full
  rw [List.set_append_right _ _ (by simp), List.length_replicate, Nat.sub_self, List.drop_eq_getElem_cons h, List.set_cons_zero, List.replicate_succ']
  simp
theorem full_all (c : Int) (n : Nat) (l : List OE) (h : l.length = n) : full c n l = rp n c := by subst h; simp [full, rp]
theorem full_zero (c : Int) (l : List OE) : full c 0 l = l := by simp [full]
theorem full_len (c : Int) (k : Nat) (l : List OE) (h : k ≤ l.length) : (full c k l).length = l.length := by simp [full]; omega
theorem osC_app (l m : List OE) : osC (l ++ m) = osC l ++ osC m := by simp [osC]
theorem rp_succ (n : Nat) (x : Int) : osC (rp n x) ++ [.int .i64 x, .slice none 0 0] = osC (rp (n + 1) x) := by
  unfold rp; rw [List.replicate_succ', osC_app]; rfl
theorem rp_at (n : Nat) (x : Int) (k : Nat) (h : k < n) : (rp n x)[k]? = some (oe x) := by simp [rp, h]
theorem OwnO.len {w : World} {B : Nat} {v : Value} {n : Nat} {l : List OE} (h : OwnO w B v n l) : l.length = n := by have := h.1; rw [osC_len] at this; omega
/-- a list that can be read, of one mark alone -/
def Rd (w : World) (a : Option Addr) (n : Nat) (x : Int) : Prop := n = 0 ∨ ∃ g, a = some ⟨g, 0, none⟩ ∧ (∃ c, w.heap[g]? = some (.cells c 68 (0, 0))) ∧ ∀ k, k < n → w.cell? ⟨g, k * 2, none⟩ = some (.int .i64 x) ∧ w.cell? ⟨g, k * 2 + 1, none⟩ = some (.slice none 0 0)
theorem Rd.two {w : World} {a : Option Addr} {n : Nat} {x : Int} (h : Rd w a n x) : Rd2 w a n x := by
  rcases h with h | ⟨g, e, _, h⟩
  · exact .inl h
  · exact .inr ⟨g, e, h⟩
theorem Rd.keep {w w' : World} {a : Option Addr} {n : Nat} {x : Int} {r : Option Nat} (h : Rd w a n x) (hg : w.grownBy w' r) (hne : ∀ g, a = some ⟨g, 0, none⟩ → some g ≠ r) : Rd w' a n x := by
  rcases h with h | ⟨g, rfl, ⟨c, hc⟩, h⟩
  · exact .inl h
  · refine .inr ⟨g, rfl, ⟨c, ?_⟩, fun k hk => ⟨hg.cell (h k hk).1 (hne g rfl), hg.cell (h k hk).2 (hne g rfl)⟩⟩
    rw [hg.block g (Array.getElem?_eq_some_iff.1 hc).1 (hne g rfl)]
    exact hc
theorem Rd.of {w : World} {B : Nat} {a a' : Option Addr} {n n' c c' : Nat} {x : Int} (h : OwnO w B (.slice a' n' c') n' (rp n' x)) (hn : n ≤ n') (ha : (Value.slice a n c).ownBlock = (Value.slice a' n' c').ownBlock) (hz : ∀ y, a = some y → y = ⟨y.block, 0, none⟩) : Rd w a n x := by
  by_cases h0 : n = 0
  · exact .inl h0
  · rcases h.2 with ⟨_, h1⟩ | ⟨g, cap, cur, hv, hg, hh, r⟩
    · omega
    · have hv' := hv
      simp only [Value.slice.injEq, true_and] at hv
      obtain ⟨rfl, rfl⟩ := hv
      cases a with
      | none => simp [Value.ownBlock] at ha
      | some y =>
        have := hz y rfl
        simp only [Value.ownBlock, Option.some.injEq] at ha
        rw [ha] at this
        subst this
        refine .inr ⟨g, rfl, ⟨cur, hh⟩, fun k hk => ?_⟩
        obtain ⟨z1, z2⟩ := osC_at _ _ _ (rp_at n' x k (by omega))
        exact ⟨(h.cellAt _ (by omega)).trans z1, (h.cellAt _ (by omega)).trans z2⟩
abbrev vv (A : Nat → Option Addr) (C M : Nat → Nat) (j : Nat) : Value := .slice (A j) (M j) (C j)
/-- the lists' blocks -/
def vB (A : Nat → Option Addr) (C M : Nat → Nat) (n q : Nat) : Prop := ∃ j, j < n ∧ (vv A C M j).ownBlock = some q
/-- what does not change: the lists lie apart, among the call's own, at the head of their blocks -/
structure Still (n lb B : Nat) (A : Nat → Option Addr) (C M : Nat → Nat) (w0 : World) (K : Nat) : Prop where
  nK : ∀ j, j < n → (vv A C M j).ownBlock ≠ some K
  lK : K < w0.heap.size
  dis : ∀ i j, i < n → j < n → i ≠ j → (vv A C M i).ownBlock = none ∨ (vv A C M i).ownBlock ≠ (vv A C M j).ownBlock
  nlb : ∀ j, j < n → (vv A C M j).ownBlock ≠ some lb
  head : ∀ j, j < n → ∀ y, A j = some y → y = ⟨y.block, 0, none⟩
  base : ∀ j, j < n → ∀ q, (vv A C M j).ownBlock = some q → B ≤ q ∧ q < w0.heap.size
  lbs : lb < w0.heap.size
  size : B ≤ w0.heap.size
theorem own_head {w : World} {B n c : Nat} {a : Option Addr} {l : List OE} (h : OwnO w B (.slice a n c) n l) : ∀ y, a = some y → y = ⟨y.block, 0, none⟩ := by
  intro y hy
  rcases h.2 with ⟨h1, _⟩ | ⟨g, cap, cur, h1, _⟩
  · simp only [Value.slice.injEq] at h1; rw [hy] at h1; simp at h1
  · simp only [Value.slice.injEq] at h1; rw [hy] at h1; simp only [Option.some.injEq] at h1; rw [h1.1]
/-- the first loop: each list holds F -/
structure L1 (K : Nat) (kv : Value) (n lb off B : Nat) (A : Nat → Option Addr) (C M : Nat → Nat) (F : Nat → List OE) (w0 w : World) : Prop where
  kc : w.cell? ⟨K, 0, none⟩ = some kv
  row : ∀ j, j < n → w.cell? ⟨lb, off + j, none⟩ = some (vv A C M j)
  own : ∀ j, j < n → OwnO w B (vv A C M j) (M j) (F j)
  bel : Below B w0 w
  ch : Ch (vB A C M n) w0 w
theorem L1.step {K : Nat} {kv : Value} {n lb off B : Nat} {A : Nat → Option Addr} {C M : Nat → Nat} {F G : Nat → List OE} {w0 w w' : World} (h : L1 K kv n lb off B A C M F w0 w) (hs : Still n lb B A C M w0 K) {i : Nat} (hi : i < n)
    (ho : OwnO w' B (vv A C M i) (M i) (G i)) (hg : w.grownBy w' (vv A C M i).ownBlock) (hG : ∀ j, j ≠ i → G j = F j) : L1 K kv n lb off B A C M G w0 w' := by
  refine ⟨hg.cell h.kc (fun e => hs.nK i hi e.symm), fun j hj => hg.cell (h.row j hj) (fun e => hs.nlb i hi e.symm), fun j hj => ?_, h.bel.grown hg (Nat.le_trans hs.size h.bel.size) (fun k hk => (hs.base i hi k hk).1), h.ch.trans (Ch.ofGrown hg) (fun _ _ e => ⟨i, hi, e⟩)⟩
  by_cases e : j = i
  · subst e; exact ho
  · rw [hG j e]; exact (h.own j hj).kept hg (hs.dis j i hj hi e)
/-- .. of those ahead of i, marked -/
def mkd (M : Nat → Nat) (L : Nat → List OE) (i j : Nat) : List OE := if j < i then rp (M j) (mark j) else L j

/-- the second loop: the lists from i on, the longer ones ahead of i -/
structure L2 (K : Nat) (kv : Value) (n lb off B : Nat) (A : Nat → Option Addr) (C M : Nat → Nat) (i : Nat) (G : Nat → Value) (w0 w : World) : Prop where
  kc : w.cell? ⟨K, 0, none⟩ = some kv
  row : ∀ j, j < n → w.cell? ⟨lb, off + j, none⟩ = some (vv A C M j)
  own : ∀ j, i ≤ j → j < n → OwnO w B (vv A C M j) (M j) (rp (M j) (mark j))
  lon : ∀ j, j < i → OwnO w B (G j) (2 * M j + 9) (rp (2 * M j + 9) (mark j))
  rd : ∀ j, j < i → Rd w (A j) (M j) (mark j)
  sep : ∀ j k, j < i → i ≤ k → k < n → (G j).ownBlock = none ∨ (G j).ownBlock ≠ (vv A C M k).ownBlock
  bel : Below B w0 w
  ch : Ch (vB A C M n) w0 w
theorem L2.step {K : Nat} {kv : Value} {n lb off B : Nat} {A : Nat → Option Addr} {C M : Nat → Nat} {i : Nat} {G : Nat → Value} {w0 w w' : World} (h : L2 K kv n lb off B A C M i G w0 w) (hs : Still n lb B A C M w0 K) (hi : i < n) (g : Value)
    (ho : OwnO w' B g (2 * M i + 9) (rp (2 * M i + 9) (mark i))) (hr : Rd w' (A i) (M i) (mark i)) (hg : w.grownBy w' (vv A C M i).ownBlock)
    (hp : g.ownBlock = (vv A C M i).ownBlock ∨ ∀ q, g.ownBlock = some q → w.heap.size ≤ q) : L2 K kv n lb off B A C M (i + 1) (fun j => if j = i then g else G j) w0 w' := by
  have hsz := h.bel.size
  refine ⟨hg.cell h.kc (fun e => hs.nK i hi e.symm), fun j hj => hg.cell (h.row j hj) (fun e => hs.nlb i hi e.symm), fun j h1 hj => (h.own j (by omega) hj).kept hg (hs.dis j i hj hi (by omega)), fun j hj => ?_, fun j hj => ?_, fun j k hj h1 hk => ?_, h.bel.grown hg (Nat.le_trans hs.size hsz) (fun k hk => (hs.base i hi k hk).1), h.ch.trans (Ch.ofGrown hg) (fun _ _ e => ⟨i, hi, e⟩)⟩
  · by_cases e : j = i
    · subst e; simpa using ho
    · simp only [e, if_false]; exact (h.lon j (by omega)).kept hg (h.sep j i (by omega) (Nat.le_refl _) hi)
  · by_cases e : j = i
    · subst e; exact hr
    · refine (h.rd j (by omega)).keep hg (fun q hq => ?_)
      rcases hs.dis j i (by omega) hi e with h1 | h1
      · simp [vv, hq, Value.ownBlock] at h1
      · simpa [vv, hq, Value.ownBlock] using h1
  · by_cases e : j = i
    · subst e
      simp only [if_true]
      rcases hp with hp | hp
      · rw [hp]; exact hs.dis j k hi hk (by omega)
      · cases hv : g.ownBlock with
        | none => exact .inl rfl
        | some q =>
          refine .inr (fun e => ?_)
          have h2 := hp q hv
          have h3 := (hs.base k hk q e.symm).2
          omega
    · simp only [e, if_false]; exact h.sep j k (by omega) (by omega) hk
/-- .. while the list of the longer ones is lengthened -/
theorem L2.long {K : Nat} {kv : Value} {n lb off B : Nat} {A : Nat → Option Addr} {C M : Nat → Nat} {i m : Nat} {G : Nat → Value} {w0 w w' : World} {v : Value} {xs : List Value} (h : L2 K kv n lb off B A C M i G w0 w) (hs : Still n lb B A C M w0 K)
    (hv : w.ownsRow w0.heap.size 43 1 v m xs) (hg : w.grownBy w' v.ownBlock) : L2 K kv n lb off B A C M i G w0 w' := by
  have hsz := h.bel.size
  refine ⟨hg.cell h.kc (fun e => by have := (hv.lt K e.symm).1; have := hs.lK; omega), fun j hj => hg.cell (h.row j hj) (fun e => ?_), fun j h1 hj => (h.own j h1 hj).kept hg (apart' (h.own j h1 hj) hv (by decide)), fun j hj => (h.lon j hj).kept hg (apart' (h.lon j hj) hv (by decide)), fun j hj => ?_, h.sep, h.bel.grown hg (Nat.le_trans hs.size hsz) (fun k hk => Nat.le_trans hs.size (hv.lt k hk).1), h.ch.trans (Ch.ofGrown hg) (fun x hx e => absurd hx (by have := (hv.lt x e).1; omega))⟩
  · have := (hv.lt lb e.symm).1
    have := hs.lbs
    omega
  · rcases h.rd j hj with h0 | ⟨g, ha, ⟨c, hc⟩, hcell⟩
    · exact .inl h0
    · refine Rd.keep (.inr ⟨g, ha, ⟨c, hc⟩, hcell⟩) hg (fun q hq e => ?_)
      rw [ha] at hq
      simp only [Option.some.injEq, Addr.mk.injEq, and_true] at hq
      subst hq
      obtain ⟨c', hc'⟩ := kind' hv g e.symm
      rw [hc] at hc'
      simp at hc'
theorem L2.alloc {K : Nat} {kv : Value} {n lb off B : Nat} {A : Nat → Option Addr} {C M : Nat → Nat} {i : Nat} {G : Nat → Value} {w0 w : World} (h : L2 K kv n lb off B A C M i G w0 w) (hs : Still n lb B A C M w0 K) (o : Obj) : L2 K kv n lb off B A C M i G w0 (w.alloc o) := by
  have hg := World.grownBy_alloc w o none
  exact ⟨hg.cell h.kc (by simp), fun j hj => hg.cell (h.row j hj) (by simp), fun j h1 hj => (h.own j h1 hj).alloc o, fun j hj => (h.lon j hj).alloc o, fun j hj => (h.rd j hj).keep hg (fun _ _ => by simp), h.sep, h.bel.alloc (Nat.le_trans hs.size h.bel.size) o, h.ch.alloc o⟩
def mi0 (M : Nat → Nat) (i : Nat) : Nat := M i
/-- while one list is lengthened: it still reads as it was, the longer one lies in its row or in a new one -/
structure Inn (wi w : World) (a : Option Addr) (m c : Nat) (x : Int) (gv : Value) : Prop where
  rd : Rd w a m x
  grow : wi.grownBy w (Value.slice a m c).ownBlock
  old : ∀ q, (Value.slice a m c).ownBlock = some q → q < wi.heap.size
  head : ∀ y, a = some y → y = ⟨y.block, 0, none⟩
  at' : gv.ownBlock = (Value.slice a m c).ownBlock ∨ ∀ q, gv.ownBlock = some q → wi.heap.size ≤ q
theorem Inn.start {w : World} {a : Option Addr} {m c B : Nat} {x : Int} (h : OwnO w B (.slice a m c) m (rp m x)) (hh : ∀ y, a = some y → y = ⟨y.block, 0, none⟩) : Inn w w a m c x (.slice a m c) :=
  ⟨Rd.of h (Nat.le_refl _) rfl hh, World.grownBy.refl _ _, fun q hq => (h.lt q hq).2, hh, .inl rfl⟩
theorem Inn.step {wi w w' : World} {a : Option Addr} {m c B n : Nat} {x : Int} {gv gv' : Value} {o : Obj} (h : Inn wi w a m c x gv) (ho : OwnO w' B gv' n (rp n x)) (hn : m ≤ n)
    (hs : ((w.alloc o).grownBy w' none ∧ ∀ q, gv'.ownBlock = some q → (w.alloc o).heap.size ≤ q) ∨ ((w.alloc o).grownBy w' gv.ownBlock ∧ gv'.ownBlock = gv.ownBlock ∧ gv.ownBlock ≠ none)) : Inn wi w' a m c x gv' := by
  have ha : wi.grownBy (w.alloc o) (Value.slice a m c).ownBlock := gtrans h.grow (World.grownBy_alloc w o _)
  have hra : Rd (w.alloc o) a m x := h.rd.keep (World.grownBy_alloc w o none) (fun _ _ => by simp)
  rcases hs with ⟨hg, hq⟩ | ⟨hg, e, hne⟩
  · exact ⟨hra.keep hg (fun _ _ => by simp), gfar ha hg (fun _ h => by simp at h), h.old, h.head, .inr (fun q hq' => Nat.le_trans ha.size (hq q hq'))⟩
  · rcases h.at' with h1 | h1
    · refine ⟨?_, gtrans ha (by rw [← h1]; exact hg), h.old, h.head, .inl (e.trans h1)⟩
      obtain ⟨a', c', rfl⟩ := owns_shape ho
      exact Rd.of ho hn (h1.symm.trans e.symm) h.head
    · refine ⟨hra.keep hg (fun g hg' e' => ?_), gfar ha hg h1, h.old, h.head, .inr (fun q hq => h1 q (e ▸ hq))⟩
      have h2 := h.old g (by rw [hg']; rfl)
      have h3 := h1 g e'.symm
      omega
end Go.Proofs.YtfoeepbndfnifaaDoor.Ll
namespace Go.Proofs.YtfoeepbndfnifaaDoor.Ll
open Go.RowKit
open Bk (R R.symm news_at news1')

theorem form {w : World} {B : Nat} {v : Value} {n : Nat} {l : List OE} (h : OwnO w B v n l) (hn : 0 < n) : ∃ g c, v = .slice (some ⟨g, 0, none⟩) n c ∧ B ≤ g ∧ g < w.heap.size := by
  rcases h.2 with ⟨_, h0⟩ | ⟨g, cap, cur, rfl, hg, hh, r⟩
  · omega
  · exact ⟨g, cap, rfl, hg, (Array.getElem?_eq_some_iff.1 hh).1⟩
theorem osC_set (l : List OE) (k : Nat) (x : Int) : ((osC l).set (k * 2) (.int .i64 x)).set (k * 2 + 1) (.slice none 0 0) = osC (l.set k (oe x)) := by
  induction l generalizing k with
  | nil => simp [osC]
  | cons o l ih =>
    have e : ∀ (o : OE) (l : List OE), osC (o :: l) = .int .i64 o.k :: .slice o.a o.n o.c :: osC l := fun o l => by simp [osC, OE.cs]
    rw [e]
    match k with
    | 0 => show _ = osC (oe x :: l); rw [e]; rfl
    | k + 1 =>
      show _ = osC (o :: l.set k (oe x))
      rw [e, ← ih k, show (k + 1) * 2 = k * 2 + 1 + 1 by omega]
      rfl
theorem mark_wrap (i : Nat) (h : i ≤ 1000000) : IntKind.i64.wrap (-1000 - (i : Int)) = mark i := by
  simp [mark, IntKind.wrap, IntKind.bits, IntKind.signed]; omega
set_option maxHeartbeats 6400000 in
set_option maxRecDepth 100000 in
theorem settle_walk (K n lb cl B : Nat) (kL : Value) (A : Nat → Option Addr) (C M : Nat → Nat) (L : Nat → List OE) (w0 : World) (hkL : kL = .slice (some ⟨lb, 0, none⟩) n cl) (HH : Hid (∀ w, Below w0.heap.size w0 w → Still n lb B A C M w K ∧ L1 K kL n lb 0 B A C M L w w)) (hB0 : B ≤ w0.heap.size) (hM : ∀ j, M j ≤ 65535) (hn : n ≤ 1000000)
    (QU : Hid (Calls Tryd.prog 20 #[.pointer (some ⟨K, 0, none⟩)] w0 fun e w' => e = .returned (.bool true) ∧ Below w0.heap.size w0 w')) :
    Calls Tryd.prog 21 #[.pointer (some ⟨K, 0, none⟩)] w0 fun e w' => e = .returned (.bool true) ∧ Below B w0 w' ∧ Ch (vB A C M n) w0 w' := by
  obtain ⟨i0, hi, hz0, hz1, hz2⟩ := info_parts Tryd.infoOpt
  obtain ⟨j0, hj, hy0, hy1, hy2⟩ := info_parts infoOpts
  subst hkL
  go_enter Tryd.func21, Tryd.ntmps21
  go_wp2_with fail
  refine Calls.mono QU.out ?_
  rintro e w ⟨rfl, hbU⟩
  have HS : Hid _ := (HH.out w hbU).1
  have H0 : Hid _ := (HH.out w hbU).2
  have HBU : Hid (Below B w0 w) := hbU.mono hB0
  have HBU2 : Hid (Below w0.heap.size w0 w) := hbU
  clear QU HH hbU
  have kc0 := H0.out.kc
  go_wp2
  go_loopw [3] (fun ix wr => ∃ k : Nat, k ≤ n ∧ ix = .int .i64 k ∧ Hid (L1 K (.slice (some ⟨lb, 0, none⟩) n cl) n lb 0 B A C M (mkd M L k) w wr)) (fun ix _ => n - (intOf ix).toNat)
  case atStart => exact ⟨0, Nat.zero_le _, rfl, by
    have e : mkd M L 0 = L := by funext j; simp [mkd]
    rw [e]; exact H0⟩
  case round =>
    obtain ⟨i, hin, rfl, HI⟩ := hrel
    clear kc0
    have kc := HI.out.kc
    by_cases hlt : i < n
    · have hrow := HI.out.row i hlt
      rw [Nat.zero_add] at hrow
      have ho := HI.out.own i hlt
      have hMi := hM i
      have HF : Hid (mkd M L i i = L i) := by show _ = _; simp [mkd]
      have hlL : (L i).length = M i := by rw [← HF.out]; exact ho.len
      rw [HF.out] at ho
      have HEQ : Hid (∀ ai mi ci, A i = ai → M i = mi → C i = ci → vv A C M i = .slice ai mi ci) := fun _ _ _ h1 h2 h3 => by rw [vv, h1, h2, h3]
      obtain ⟨ai, hai⟩ : ∃ x, x = A i := ⟨_, rfl⟩
      obtain ⟨mi, hmi⟩ : ∃ x, x = M i := ⟨_, rfl⟩
      obtain ⟨ci, hci⟩ : ∃ x, x = C i := ⟨_, rfl⟩
      obtain ⟨li, hli⟩ : ∃ x, x = L i := ⟨_, rfl⟩
      have HV : Hid (vv A C M i = .slice ai mi ci) := HEQ.out ai mi ci hai.symm hmi.symm hci.symm
      have HMI : Hid (M i = mi) := hmi.symm
      have HLI : Hid (L i = li) := hli.symm
      rw [HV.out] at hrow ho
      rw [← hmi] at hMi ho hlL
      rw [← hli] at ho hlL
      have HLL : Hid (li.length = mi) := hlL
      clear hai hmi hci hli hlL HEQ
      obtain ⟨x, hx⟩ : ∃ x, x = mark i := ⟨_, rfl⟩
      have HX : Hid (mark i = x) := hx.symm
      have hx2 : IntKind.i64.wrap (-1000 - (i : Int)) = x := by rw [hx]; exact mark_wrap i (by omega)
      clear hx
      obtain ⟨wi, hwi⟩ : ∃ wi, wi = wr := ⟨_, rfl⟩
      rw [← hwi] at HI hrow ho kc ⊢
      clear hwi
      go_wp2
      go_loopw [4] (fun ix wq => ∃ k : Nat, k ≤ mi ∧ ix = .int .i64 k ∧ OwnO wq B (.slice ai mi ci) mi (full x k li) ∧ wi.grownBy wq (Value.slice ai mi ci).ownBlock) (fun ix _ => mi - (intOf ix).toNat)
      case atStart => exact ⟨0, Nat.zero_le _, rfl, by rw [full_zero]; exact ho, World.grownBy.refl _ _⟩
      case round =>
        obtain ⟨k, hk, rfl, hq, hgq⟩ := hrel
        have hnlb := HS.out.nlb i hlt
        have hnK := HS.out.nK i hlt
        rw [HV.out] at hnlb hnK
        have hrow' := hgq.cell hrow (fun e => hnlb e.symm)
        have kc' := hgq.cell kc (fun e => hnK e.symm)
        by_cases hlk : k < mi
        · obtain ⟨g, c', e2, hgB, hgs⟩ := form hq (by omega)
          simp only [Value.slice.injEq, true_and] at e2
          obtain ⟨rfl, rfl⟩ := e2
          have hl := hq.len
          have hlo : k < (full x k li).length := by omega
          obtain ⟨q, hq'⟩ : ∃ q, (full x k li)[k]? = some q := ⟨_, List.getElem?_eq_getElem hlo⟩
          obtain ⟨z1, z2⟩ := osC_at _ _ _ hq'
          have cc : wr.cell? ⟨g, k * 2, none⟩ = some (.int .i64 q.k) := (hq.cellAt _ (by omega)).trans z1
          have cc2 : wr.cell? ⟨g, k * 2 + 1, none⟩ = some (.slice q.a q.n q.c) := (hq.cellAt _ (by omega)).trans z2
          have ff := hq.frozenAt (k * 2)
          have ff2 := hq.frozenAt (k * 2 + 1)
          have hst1 := hq.stored (k * 2) (.int .i64 x)
          have hst2 := hst1.1.stored (k * 2 + 1) (.slice none 0 0)
          have hst : _ ∧ _ := ⟨hst2.1, gtrans hst1.2 hst2.2⟩
          rw [osC_set, full_set x k _ (by rw [HLL.out]; exact hlk)] at hst
          have HST : Hid (_ ∧ _) := hst
          clear z1 z2 hst1 hst2 hlo
          have HGQ : Hid _ := hgq
          clear hst hq' hl hq ho hrow hgq hnlb hnK kc
          go_wp2
          go_roundw
          case rel => exact ⟨k + 1, by omega, by go_num, HST.out.1, gtrans HGQ.out HST.out.2⟩
          case measure => simp [intOf]; omega
        · have hkm : k = mi := by omega
          have hq2 : OwnO wr B (.slice ai mi ci) mi (rp mi x) := by rw [hkm, full_all x mi li HLL.out] at hq; exact hq
          have HN : Hid (L1 K (.slice (some ⟨lb, 0, none⟩) n cl) n lb 0 B A C M (mkd M L (i + 1)) w wr) := by
            refine L1.step HI.out HS.out hlt ?_ (by rw [HV.out]; exact hgq) (fun j hj => ?_)
            · have e : mkd M L (i + 1) i = rp mi x := by simp [mkd, HX.out, HMI.out]
              rw [e, HV.out, HMI.out]; exact hq2
            · simp only [mkd]
              by_cases h1 : j < i
              · rw [if_pos h1, if_pos (by omega)]
              · rw [if_neg h1, if_neg (by omega)]
          clear hq hq2 hgq hrow ho hnlb hkm hnK kc
          go_wp2
          go_roundw
          case rel => exact ⟨i + 1, by omega, by go_num, HN⟩
          case measure => simp [intOf]; omega
    · have hin' : i = n := by omega
      have HL : Hid (L2 K (.slice (some ⟨lb, 0, none⟩) n cl) n lb 0 B A C M 0 (fun _ => .slice none 0 0) w wr) := by
        have h := HI.out
        refine ⟨h.kc, h.row, fun j _ hj => ?_, fun j hj => by omega, fun j hj => by omega, fun j _ hj => by omega, h.bel, h.ch⟩
        have := h.own j hj
        rw [show mkd M L i j = rp (M j) (mark j) by simp only [mkd]; rw [if_pos (by omega)]] at this
        exact this
      have hni : ¬ ((i : Int) < (n : Int)) := by omega
      clear hin' HI hlt
      go_wp2
      go_loopw [5, 6] (fun lv ix wr => ∃ (k : Nat) (G : Nat → Value), k ≤ n ∧ ix = .int .i64 k ∧ wr.ownsRow w.heap.size 43 1 lv k ((List.range k).map G) ∧ Hid (L2 K (.slice (some ⟨lb, 0, none⟩) n cl) n lb 0 B A C M k G w wr)) (fun _ ix _ => n - (intOf ix).toNat)
      case atStart => exact ⟨0, fun _ => .slice none 0 0, Nat.zero_le _, rfl, World.ownsRow_nil _ _ _ _, HL⟩
      case round =>
        obtain ⟨i, G, hin2, rfl, hlong, HI⟩ := hrel
        clear HL hni hin kc
        have kc := HI.out.kc
        by_cases hlt : i < n
        · have hrow := HI.out.row i hlt
          rw [Nat.zero_add] at hrow
          have ho := HI.out.own i (Nat.le_refl _) hlt
          have hMi := hM i
          have hBs : B ≤ w.heap.size := HS.out.size
          have hws : w.heap.size ≤ wr.heap.size := HI.out.bel.size
          have HEQ : Hid (∀ ai mi ci, A i = ai → M i = mi → C i = ci → vv A C M i = .slice ai mi ci) := fun _ _ _ h1 h2 h3 => by rw [vv, h1, h2, h3]
          have hhd := HS.out.head i hlt
          have hbs := HS.out.base i hlt
          obtain ⟨ai, hai⟩ : ∃ x, x = A i := ⟨_, rfl⟩
          obtain ⟨mi, hmi⟩ : ∃ x, x = M i := ⟨_, rfl⟩
          obtain ⟨ci, hci⟩ : ∃ x, x = C i := ⟨_, rfl⟩
          have HV : Hid (vv A C M i = .slice ai mi ci) := HEQ.out ai mi ci hai.symm hmi.symm hci.symm
          have HMI : Hid (M i = mi) := hmi.symm
          have HAI : Hid (A i = ai) := hai.symm
          rw [HV.out] at hrow ho hbs
          rw [← hmi] at hMi ho
          rw [← hai] at hhd
          obtain ⟨x, hx⟩ : ∃ x, x = mark i := ⟨_, rfl⟩
          rw [← hx] at ho
          have HX : Hid (mark i = x) := hx.symm
          have hx2 : IntKind.i64.wrap (-1000 - (i : Int)) = x := by rw [hx]; exact mark_wrap i (by omega)
          have HHD : Hid (∀ y, ai = some y → y = ⟨y.block, 0, none⟩) := hhd
          have HBS : Hid (∀ q, (Value.slice ai mi ci).ownBlock = some q → B ≤ q ∧ q < w.heap.size) := hbs
          clear hx hai hmi hci HEQ hhd hbs
          obtain ⟨wi, hwi⟩ : ∃ wi, wi = wr := ⟨_, rfl⟩
          rw [← hwi] at HI hrow ho hws hlong kc ⊢
          clear hwi
          obtain ⟨T, hT⟩ : ∃ T, T = 2 * mi + 9 := ⟨_, rfl⟩
          have HT : Hid (T = 2 * mi + 9) := hT
          have hT1 : 2 * (mi : Int) + 9 = (T : Int) := by omega
          have hT2 : T ≤ 131079 := by omega
          clear hT
          go_wp2
          go_loopw [7] (fun gv wq => ∃ k : Nat, mi + k ≤ T ∧ OwnO wq B gv (mi + k) (rp (mi + k) x) ∧ Hid (Inn wi wq ai mi ci x gv)) (fun gv _ => T - (match gv with | .slice _ m _ => m | _ => 0))
          case atStart => exact ⟨0, by have := HT.out; omega, ho, Inn.start ho HHD.out⟩
          case round =>
            obtain ⟨k, hk, hq, HN⟩ := hrel
            obtain ⟨a7, c7, rfl⟩ := owns_shape hq
            obtain ⟨m, hm⟩ : ∃ m, m = mi + k := ⟨_, rfl⟩
            have HM7 : Hid (m = mi + k) := hm
            rw [← hm] at hq hk HN ⊢
            clear hm
            by_cases hlk : m < T
            · have hsz := HN.out.grow.size
              clear ho hrow kc
              go_wp2_with (first | (at_builtin; refine Dk.append_splitK 2 (by decide) rfl (.tmp 70) (.tmp 74) 43 rfl B 68 i0 (.agg #[.int .i64 0, .slice none 0 0]) 32 Tryd.underlying43 hi hz0 hz1 hz2 rfl _ _ _ rfl (hq.alloc _) ⟨wr.heap.size, 0, none⟩ 1 1 [.int .i64 x, .slice none 0 0] rfl rfl (news_at _ _ _) (by intro u hu; simp at hu; rcases hu with rfl | rfl <;> rfl) (by unfold maxLen; omega) (by omega) (by simp; omega) ?_))
              intro v6 w6 ho6' hsp
              have ho6 : OwnO w6 B v6 (m + 1) (rp (m + 1) x) := by
                rw [OwnO, ← rp_succ]; exact ho6'
              have HN6 : Hid (Inn wi w6 ai mi ci x v6) := HN.out.step (o := .cells #[.int .i64 x, .slice none 0 0] 68) ho6 (by have := HM7.out; omega) (by simpa using hsp)
              obtain ⟨a8, c8, rfl⟩ := owns_shape ho6
              clear hsp ho6' hq HN
              go_wp2
              go_roundw
              case rel => have := HM7.out; exact ⟨k + 1, by omega, by rw [show mi + (k + 1) = m + 1 by omega]; exact ho6, HN6⟩
              case measure => simp; omega
            · have hmT : m = T := by omega
              have hni : ¬ ((m : Int) < (T : Int)) := by omega
              rw [hmT] at hq HN ⊢
              obtain ⟨u8, hu8⟩ : ∃ u, u = Value.slice a7 T c7 := ⟨_, rfl⟩
              rw [← hu8] at hq HN
              have HI2 : Hid (L2 K (.slice (some ⟨lb, 0, none⟩) n cl) n lb 0 B A C M (i + 1) (fun j => if j = i then u8 else G j) w wr) := by
                refine HI.out.step HS.out hlt u8 ?_ ?_ ?_ ?_
                · rw [HMI.out, HX.out, ← HT.out]; exact hq
                · rw [HMI.out, HX.out, HAI.out]; exact HN.out.rd
                · rw [HV.out]; exact HN.out.grow
                · rw [HV.out]; exact HN.out.at'
              have hlong2 : wr.ownsRow w.heap.size 43 1 u5 i ((List.range i).map G) := hlong.kept HN.out.grow (by
                cases hv : u5.ownBlock with
                | none => exact .inl rfl
                | some q =>
                  refine .inr (fun e => ?_)
                  have h1 := (hlong.lt q hv).1
                  have h2 := (HBS.out q e.symm).2
                  omega)
              have hsz := HN.out.grow.size
              have hmap : (List.range i).map G ++ [u8] = (List.range (i + 1)).map (fun j => if j = i then u8 else G j) := by
                rw [List.range_succ, List.map_append]
                congr 1
                · refine List.map_congr_left (fun j hj => ?_)
                  rw [List.mem_range] at hj
                  rw [if_neg (by omega)]
                · simp
              have HMAP : Hid _ := hmap
              obtain ⟨G2, hG2⟩ : ∃ G2, G2 = (fun j => if j = i then u8 else G j) := ⟨_, rfl⟩
              rw [← hG2] at HI2 HMAP
              clear hmap hG2 hlong ho hrow hq HN HI kc
              obtain ⟨xs, hxs⟩ : ∃ xs, xs = (List.range i).map G := ⟨_, rfl⟩
              rw [← hxs] at hlong2 HMAP
              rw [hu8] at HMAP
              clear hxs hu8
              go_wp2_with (first | (at_builtin; refine wpList_append_own _ rfl (.tmp 76) (.tmp 78) 33 rfl w.heap.size 43 j0 (.slice none 0 0) 1 24 Tryd.underlying33 hj hy0 hy1 hy2 rfl (by decide) _ _ _ rfl (hlong2.alloc _) ⟨wr.heap.size, 0, none⟩ 1 1 [.slice a7 T c7] rfl rfl (news1' _ _ _) (by intro u hu; simp at hu; subst hu; rfl) (by unfold maxLen; omega) (by omega) (by simp; omega) ?_))
              intro v6 w6 ho6 hg6 _
              rw [HMAP.out] at ho6
              have HI3 : Hid (L2 K (.slice (some ⟨lb, 0, none⟩) n cl) n lb 0 B A C M (i + 1) G2 w w6) := by
                have hal := HI2.out.alloc HS.out (.cells #[.slice a7 T c7] 43)
                exact hal.long HS.out (hlong2.alloc _) hg6
              clear hg6 hlong2 HI2
              go_wp2
              go_roundw
              case rel => exact ⟨i + 1, G2, by omega, by go_num, ho6, HI3⟩
              case measure => simp [intOf]; omega
        · have hin' : i = n := by omega
          subst hin'
          clear hlt hin2
          have hni : ¬ ((i : Int) < (i : Int)) := by omega
          obtain ⟨la, lc, rfl⟩ := owns_shape hlong
          have hfin := HI.out.bel
          go_wp2
          have hBw : B ≤ wr.heap.size := Nat.le_trans HS.out.size hfin.size
          obtain ⟨wz, hwz⟩ : ∃ wz, wz = wr := ⟨_, rfl⟩
          rw [← hwz] at HI hlong hfin hBw kc ⊢
          clear hwz
          go_loopw [9] (fun ix wq => ∃ k : Nat, k ≤ i ∧ ix = .int .i64 k ∧ wq = wz) (fun ix _ => i - (intOf ix).toNat)
          case atStart => exact ⟨0, Nat.zero_le _, rfl, rfl⟩
          case round =>
            obtain ⟨k, hk, rfl, rfl⟩ := hrel
            by_cases hlk : k < i
            · have hrow := HI.out.row k hlk
              rw [Nat.zero_add] at hrow
              have hlon := HI.out.lon k hlk
              have hrd := (HI.out.rd k hlk).two
              have hMk := hM k
              obtain ⟨g, c', e2⟩ : ∃ g c', Value.slice la i lc = .slice (some ⟨g, 0, none⟩) i c' := by
                rcases hlong.2 with ⟨_, h0⟩ | ⟨g, cap, cur, h1, _⟩
                · omega
                · exact ⟨g, cap, h1⟩
              simp only [Value.slice.injEq, true_and] at e2
              obtain ⟨rfl, rfl⟩ := e2
              have hcl := hlong.cellAt k (by omega)
              rw [show ((List.range i).map G)[k]? = some (G k) by simp [hlk]] at hcl
              obtain ⟨gk, hgk⟩ : ∃ x, x = G k := ⟨_, rfl⟩
              rw [← hgk] at hcl hlon
              obtain ⟨a8, c8, rfl⟩ := owns_shape hlon
              have hrow2 : wr.cell? ⟨lb, k, none⟩ = some (.slice (A k) (M k) (C k)) := hrow
              obtain ⟨ak, hak⟩ : ∃ x, x = A k := ⟨_, rfl⟩
              obtain ⟨mk, hmk⟩ : ∃ x, x = M k := ⟨_, rfl⟩
              obtain ⟨ck, hck⟩ : ∃ x, x = C k := ⟨_, rfl⟩
              rw [← hak] at hrow2 hrd
              rw [← hmk] at hrow2 hrd hMk hlon hcl
              rw [← hck] at hrow2
              obtain ⟨x, hx⟩ : ∃ x, x = mark k := ⟨_, rfl⟩
              rw [← hx] at hlon hrd
              have hx2 : IntKind.i64.wrap (-1000 - (k : Int)) = x := by rw [hx]; exact mark_wrap k (by omega)
              have Q1 : Hid _ := only_any ak mk ck x wr hrd (by omega)
              have Q2 : Hid _ := only_any a8 (2 * mk + 9) c8 x wr (Rd.of hlon (Nat.le_refl _) rfl (own_head hlon)).two (by omega)
              obtain ⟨T, hT⟩ : ∃ T, T = 2 * mk + 9 := ⟨_, rfl⟩
              rw [← hT] at Q2 hcl
              clear hx hak hmk hck hgk hrow hlon hrd hT
              go_wp2_with fail
              refine Calls.mono Q1.out ?_
              rintro e w5 ⟨rfl, rfl⟩
              go_wp2_with fail
              refine Calls.mono Q2.out ?_
              rintro e w5 ⟨rfl, rfl⟩
              clear Q1 Q2
              go_wp2
              go_roundw
              case rel => exact ⟨k + 1, by omega, by go_num, trivial⟩
              case measure => simp [intOf]; omega
            · have hnk : ¬ ((k : Int) < (i : Int)) := by omega
              go_wp2
              go_ret
              exact ⟨rfl, HBU.out.trans hfin, (Ch.ofBelow HBU2.out).trans HI.out.ch (fun _ _ e => e)⟩
theorem getD_val (E : List BE) (j : Nat) (h : j < E.length) : E.getD j no = E[j] := by simp [List.getD, h]
set_option maxRecDepth 100000 in
set_option maxHeartbeats 1600000 in
theorem settle_none (w : World) (B K : Nat) (vL vW : Value) (h : ListsAt w B K vL vW []) (hB : B ≤ w.heap.size) :
    Calls Tryd.prog 21 #[.pointer (some ⟨K, 0, none⟩)] w fun e w' => e = .returned (.bool true) ∧ Below B w w' ∧ Ch (bB K vL vW []) w w' := by
  have Q : Hid _ := untouched_any w B K vL vW [] h (by simp)
  have HB : Hid _ := h
  obtain ⟨al, cl, aw, cw, e1, e2⟩ := h.len
  subst e1 e2
  clear h
  go_enter Tryd.func21, Tryd.ntmps21
  go_wp2_with fail
  refine Calls.mono Q.out ?_
  rintro e w1 ⟨rfl, hb⟩
  have c0 : w1.cell? ⟨K, 0, none⟩ = some (.slice al 0 cl) := (HB.out.below hb).c0
  have HBB : Hid (Below B w w1 ∧ Ch (bB K (.slice al 0 cl) (.slice aw 0 cw) []) w w1) := ⟨hb.mono hB, Ch.ofBelow hb⟩
  clear Q hb
  go_wp2
  go_loop [3] (fun ix => ix = .int .i64 0) (fun _ => 0)
  case atStart => rfl
  case round =>
    subst hrel
    go_wp2
    go_loop [6] (fun ix => ix = .int .i64 0) (fun _ => 0)
    case atStart => rfl
    case round =>
      subst hrel
      go_wp2
      go_loop [9] (fun ix => ix = .int .i64 0) (fun _ => 0)
      case atStart => rfl
      case round =>
        subst hrel
        go_wp2
        go_ret
        exact ⟨rfl, HBB.out.1, HBB.out.2⟩
theorem settle_ch (w : World) (B K : Nat) (vL vW : Value) (E : List BE) (h : ListsAt w B K vL vW E) (hE : E.length ≤ 1000000) (hB : B ≤ w.heap.size) :
    Calls Tryd.prog 21 #[.pointer (some ⟨K, 0, none⟩)] w fun e w' => e = .returned (.bool true) ∧ Below B w w' ∧ Ch (bB K vL vW E) w w' := by
  by_cases h0 : E = []
  · subst h0
    exact settle_none w B K vL vW h hB
  have hpos : 0 < E.length := by
    cases E with
    | nil => exact absurd rfl h0
    | cons _ _ => simp
  obtain ⟨lb, cl, gw, cw, e1, _, _⟩ := h.at 0 hpos
  have h65 : ∀ j, (E.getD j no).l.length ≤ 65535 := fun j => by
    by_cases hj : j < E.length
    · rw [getD_val E j hj]; exact h.b256 _ (List.getElem_mem hj)
    · simp [List.getD, hj, no]
  refine (settle_walk K E.length lb cl B vL (fun j => (E.getD j no).a) (fun j => (E.getD j no).c) (fun j => (E.getD j no).l.length) (fun j => (E.getD j no).l) w e1 (fun x hx => ?_) hB h65 hE (untouched_any w B K vL vW E h hE)).mono (fun e w' k => ⟨k.1, k.2.1, k.2.2.mono (fun q _ e => ?_)⟩)
  rotate_left
  · obtain ⟨j, hj, e⟩ := e
    have e2 : (E.getD j no).v.ownBlock = some q := e
    rw [getD_val E j hj] at e2
    exact .inr (.inr (.inr ⟨_, List.getElem_mem hj, .inl e2⟩))
  have h' := h.below hx
  have hown : ∀ j, j < E.length → OwnO x B (E.getD j no).v (E.getD j no).l.length (E.getD j no).l := fun j hj => by
    rw [getD_val E j hj]; exact h'.own _ (List.getElem_mem hj)
  have hlb : vL.ownBlock = some lb := by rw [e1]; rfl
  have hg := (h'.oL.lt lb hlb).2
  refine ⟨⟨fun j hj => ?_, (h'.lt K (.inl rfl)).2, fun i j hi hj hne => ?_, fun j hj => ?_, fun j hj => own_head (hown j hj), fun j hj q hq => (hown j hj).lt q hq, hg, Nat.le_trans hB hx.size⟩, h'.c0, fun j hj => ?_, hown, Below.refl _ _, Ch.refl _ _⟩
  · show (E.getD j no).v.ownBlock ≠ some K
    rw [getD_val E j hj]; exact (h'.nK _ (List.getElem_mem hj)).1
  · show R (E.getD i no).v (E.getD j no).v
    rw [getD_val E i hi, getD_val E j hj]
    have hp := List.pairwise_iff_getElem.1 h'.dis
    rcases Nat.lt_or_ge i j with hlt | hge
    · have := hp i j (by simpa using hi) (by simpa using hj) hlt
      rw [List.getElem_map, List.getElem_map] at this
      exact this
    · have := hp j i (by simpa using hj) (by simpa using hi) (by omega)
      rw [List.getElem_map, List.getElem_map] at this
      exact R.symm this
  · show (E.getD j no).v.ownBlock ≠ some lb
    rcases apart' (hown j hj) h'.oL (by decide) with e | e
    · rw [e]; simp
    · rw [hlb] at e; exact e
  · have ho := h'.oL
    rw [e1] at ho
    rw [Nat.zero_add, ho.cellAt j (by omega)]
    show _ = some (E.getD j no).v
    rw [getD_val E j hj]
    simp [hj]
theorem settle_any (w : World) (B K : Nat) (vL vW : Value) (E : List BE) (h : ListsAt w B K vL vW E) (hE : E.length ≤ 1000000) (hB : B ≤ w.heap.size) :
    Calls Tryd.prog 21 #[.pointer (some ⟨K, 0, none⟩)] w fun e w' => e = .returned (.bool true) ∧ Below B w w' :=
  (settle_ch w B K vL vW E h hE hB).mono (fun _ _ k => ⟨k.1, k.2.1⟩)
end Go.Proofs.YtfoeepbndfnifaaDoor.Ll
namespace Go.Proofs.YtfoeepbndfnifaaDoor.Ag6
open Go.RowKit

/-- what lies there between two calls: the desk holds l, the copy holds m -/
structure St (w wr : World) (B D g M K n : Nat) (l m : List Nat) (vN vL vW : Value) (E : List Ll.BE) : Prop where
  desk : Dk.DeskAt wr B D (some ⟨g, 0, none⟩) M n (toI (Dk.dk l M))
  now : wr.ownsRow B 5 1 vN n ((toI m).map (Value.int .u8))
  lists : Ll.ListsAt wr B K vL vW E
  len : l.length = n
  lem : m.length = n
  le : n ≤ M
  b256 : ∀ x ∈ l, x < 256
  b256m : ∀ x ∈ m, x < 256
  nN : ∀ q, vN.ownBlock = some q → q ≠ g ∧ q ≠ D ∧ ¬ Ll.bB K vL vW E q
  nL : ∀ q, Ll.bB K vL vW E q → q ≠ g ∧ q ≠ D
  bel : Below B w wr
  hB : B ≤ wr.heap.size
variable {w wr wx : World} {B D g M K n : Nat} {l m : List Nat} {vN vL vW : Value} {E : List Ll.BE}
theorem St.gB (h : St w wr B D g M K n l m vN vL vW E) : B ≤ g ∧ g < wr.heap.size := h.desk.own.lt g rfl
theorem St.gD (h : St w wr B D g M K n l m vN vL vW E) : g ≠ D := h.desk.nD g rfl
theorem St.DB (h : St w wr B D g M K n l m vN vL vW E) : B ≤ D ∧ D < wr.heap.size := ⟨h.desk.hD, World.block_lt_of_cell? wr ⟨D, 0, none⟩ h.desk.c0⟩
theorem St.below (h : St w wr B D g M K n l m vN vL vW E) (b : Below wr.heap.size wr wx) : St w wx B D g M K n l m vN vL vW E :=
  { h with desk := h.desk.below b, now := owns_below h.now b, lists := h.lists.below b, bel := h.bel.trans (b.mono h.hB), hB := Nat.le_trans h.hB b.size }
theorem dB_g {q : Nat} (h : Dk.dB D (some ⟨g, 0, none⟩) q) : q = D ∨ q = g := by
  rcases h with h | ⟨y, e, h⟩
  · exact .inl h
  · cases e; exact .inr h.symm
/-- a list is kept -/
theorem St.keep {vL' vW' : Value} {e : Ll.BE} (h : St w wr B D g M K n l m vN vL vW E) (k : Ll.Kept wr wx B K vL vW vL' vW' E e) (he : ∀ q, e.v.ownBlock = some q → q ≠ g ∧ q ≠ D ∧ vN.ownBlock ≠ some q) : St w wx B D g M K n l m vN vL' vW' (E ++ [e]) := by
  have gB := h.gB
  have DB := h.DB
  have nl : ∀ q, Ll.bB K vL' vW' (E ++ [e]) q → q ≠ g ∧ q ≠ D := fun q hq => by
    rcases k.new q hq with o | o | o
    · exact h.nL q o
    · exact ⟨(he q o).1, (he q o).2.1⟩
    · omega
  have hS : ∀ q, Ll.bB K vL vW E q → B ≤ q := fun q hq => (h.lists.lt q hq).1
  exact { desk := h.desk.ch k.ch (fun q hq hb => by
            rcases dB_g hq with rfl | rfl
            · exact (h.nL _ hb).2 rfl
            · exact (h.nL _ hb).1 rfl),
          now := k.ch.owns h.now (fun q hq => (h.nN q hq).2.2), lists := k.bk, len := h.len, lem := h.lem, le := h.le, b256 := h.b256, b256m := h.b256m,
          nN := fun q hq => ⟨(h.nN q hq).1, (h.nN q hq).2.1, fun hb => by
            rcases k.new q hb with o | o | o
            · exact (h.nN q hq).2.2 o
            · exact (he q o).2.2 hq
            · have := (h.now.lt q hq).2; omega⟩,
          nL := nl, bel := h.bel.trans (k.ch.below hS h.hB), hB := Nat.le_trans h.hB k.ch.size }
/-- the buffer's bytes are others -/
theorem St.buf {l' : List Nat} (h : St w wr B D g M K n l m vN vL vW E) (k : Ch (fun q => q = g) wr wx) (ho : wx.ownsRow B 5 1 (.slice (some ⟨g, 0, none⟩) M M) M ((toI (Dk.dk l' M)).map (Value.int .u8))) (hl : l'.length = n) (h2 : ∀ x ∈ l', x < 256) : St w wx B D g M K n l' m vN vL vW E := by
  have gB := h.gB
  exact { desk := ⟨k.cell h.desk.c0 (fun e => h.gD e.symm), k.cell h.desk.c1 (fun e => h.gD e.symm), fun j => (k.frozen (p := ⟨D, j, none⟩) h.DB.2 (fun e => h.gD e.symm)).trans (h.desk.fz j), ho, h.desk.nD, h.desk.hD, h.desk.hN⟩,
          now := k.owns h.now (fun q hq => (h.nN q hq).1), lists := h.lists.ch k (fun q hq => (h.nL q hq).1), len := hl, lem := h.lem, le := h.le, b256 := h2, b256m := h.b256m, nN := h.nN, nL := h.nL,
          bel := h.bel.trans (k.below (fun x e => by rw [e]; exact gB.1) h.hB), hB := Nat.le_trans h.hB k.size }
/-- the copy is another -/
theorem St.renew {m' : List Nat} {vN' : Value} {s : Nat} (h : St w wr B D g M K n l m vN vL vW E) (b : Below wr.heap.size wr wx) (ho : wx.ownsRow s 5 1 vN' n ((toI m').map (Value.int .u8))) (hs : wr.heap.size ≤ s) (hl : m'.length = n) (h2 : ∀ x ∈ m', x < 256) : St w wx B D g M K n l m' vN' vL vW E := by
  have hx := h.below b
  have gB := h.gB
  have DB := h.DB
  exact { hx with
          now := owns_mono ho (Nat.le_trans h.hB hs), lem := hl, b256m := h2,
          nN := fun q hq => by
            have := (ho.lt q hq).1
            exact ⟨by omega, by omega, fun hb => by have := (h.lists.lt q hb).2; omega⟩ }
theorem dk_set (l : List Nat) (M k y : Nat) (h : k < l.length) : (Dk.dk l M).set k y = Dk.dk (l.set k y) M := by
  unfold Dk.dk
  rw [List.set_append_left _ _ h, List.length_set]
theorem set_256 {l : List Nat} {k y : Nat} (h : ∀ x ∈ l, x < 256) (hy : y < 256) : ∀ x ∈ l.set k y, x < 256 := fun x hx => by
  rcases List.mem_or_eq_of_mem_set hx with e | e
  · exact h x e
  · omega
theorem setI (l : List Nat) (k y : Nat) : (toI l).set k ((y : Nat) : Int) = toI (l.set k y) := by simp [toI, List.map_set]
/-- one byte of the buffer -/
theorem St.put (h : St w wr B D g M K n l m vN vL vW E) (k y : Nat) (hk : k < n) (hy : y < 256) : (∃ z : Int, wr.cell? ⟨g, k, none⟩ = some (.int .u8 z)) ∧ wr.frozen? ⟨g, k, none⟩ = false ∧ St w (wr.setCell ⟨g, k, none⟩ (.int .u8 ((y : Nat) : Int))) B D g M K n (l.set k y) m vN vL vW E := by
  have hM := h.le
  obtain ⟨g2, hg2, z, cz, fz, NX⟩ := Dk.xor_step h.desk.own k (by omega)
  have e2 : g2 = g := by simpa using hg2.symm
  subst e2
  obtain ⟨n1, n2⟩ := NX (.int .u8 ((y : Nat) : Int)) _ rfl
  rw [setI, dk_set l M k y (by rw [h.len]; exact hk)] at n1
  exact ⟨⟨z, cz⟩, fz, h.buf n2 n1 (by simp [h.len]) (set_256 h.b256 hy)⟩
/-- one byte of the copy -/
theorem St.put2 {a : Option Addr} {c : Nat} (h : St w wr B D g M K n l m (.slice a n c) vL vW E) (k y : Nat) (hk : k < n) (hy : y < 256) : ∃ q, a = some ⟨q, 0, none⟩ ∧ (∃ z : Int, wr.cell? ⟨q, k, none⟩ = some (.int .u8 z)) ∧ wr.frozen? ⟨q, k, none⟩ = false ∧ St w (wr.setCell ⟨q, k, none⟩ (.int .u8 ((y : Nat) : Int))) B D g M K n l (m.set k y) (.slice a n c) vL vW E := by
  obtain ⟨q, hq, z, cz, fz, NX⟩ := Dk.xor_step h.now k hk
  subst hq
  obtain ⟨n1, n2⟩ := NX (.int .u8 ((y : Nat) : Int)) _ rfl
  rw [setI] at n1
  have hn := h.nN q rfl
  have qB := h.now.lt q rfl
  refine ⟨q, rfl, ⟨z, cz⟩, fz, ?_⟩
  exact { h with
          desk := h.desk.ch n2 (fun x hx e => by
            have e' : x = q := e
            rcases dB_g hx with o | o
            · exact hn.2.1 (e'.symm.trans o)
            · exact hn.1 (e'.symm.trans o)),
          now := n1, lists := h.lists.ch n2 (fun x hx e => hn.2.2 (by have e' : x = q := e; rw [← e']; exact hx)), lem := by simp [h.lem], b256m := set_256 h.b256m hy,
          bel := h.bel.trans (n2.below (fun x e => by rw [e]; exact qB.1) h.hB), hB := Nat.le_trans h.hB n2.size }
/-- the handed out list, as Lists keeps it -/
def oes (a : Option Addr) (ops : List I4.Op4) : List Ll.OE := ops.map (fun o => ⟨((o.k : Nat) : Int), cutA a o.p o.n, o.n, o.n⟩)
theorem oes_cells (a : Option Addr) (ops : List I4.Op4) : Ll.osC (oes a ops) = opsC a ops := by
  simp only [Ll.osC, oes, opsC, List.flatMap_map]
  rfl
end Go.Proofs.YtfoeepbndfnifaaDoor.Ag6
namespace Go.Proofs.YtfoeepbndfnifaaDoor.Ag6
open Go.RowKit

theorem fz_new (x : World) (cs : List Value) (t : TypeId) (j : Nat) : (x.alloc (.cells cs.toArray t)).frozen? ⟨x.heap.size, j, none⟩ = false := by
  rw [frozen?_alloc_cells]; simp [World.frozen?]
theorem desk_new (x : World) (B : Nat) (hs : B ≤ x.heap.size) : Dk.DeskAt (x.alloc (.cells #[.slice none 0 0, .int .i64 0] 31)) B x.heap.size none 0 0 [] := by
  refine ⟨?_, ?_, fun j => fz_new x [.slice none 0 0, .int .i64 0] _ j, ⟨rfl, .inl ⟨rfl, rfl⟩⟩, fun g hg => (by cases hg), hs, by decide⟩
  · have e := Bk.news_at x 31 [.slice none 0 0, .int .i64 0] 0 _ rfl; rwa [Addr.add_lit, Nat.zero_add] at e
  · have e := Bk.news_at x 31 [.slice none 0 0, .int .i64 0] 1 _ rfl; rwa [Addr.add_lit, Nat.zero_add] at e
theorem lists_new (x : World) (B : Nat) (hs : B ≤ x.heap.size) : Ll.ListsAt (x.alloc (.cells #[.slice none 0 0, .slice none 0 0] 35)) B x.heap.size (.slice none 0 0) (.slice none 0 0) [] := by
  refine ⟨?_, ?_, fun j => fz_new x [.slice none 0 0, .slice none 0 0] _ j, ⟨rfl, .inl ⟨rfl, rfl⟩⟩, ⟨rfl, .inl ⟨rfl, rfl⟩⟩, fun e he => by simp at he, fun e he => by simp at he, List.Pairwise.nil, fun e he => by simp at he, fun e he => by simp at he, ⟨by simp [Value.ownBlock], by simp [Value.ownBlock]⟩, .inl rfl, hs⟩
  · have e := Bk.news_at x 35 [.slice none 0 0, .slice none 0 0] 0 _ rfl; rwa [Addr.add_lit, Nat.zero_add] at e
  · have e := Bk.news_at x 35 [.slice none 0 0, .slice none 0 0] 1 _ rfl; rwa [Addr.add_lit, Nat.zero_add] at e
theorem st_new {w x w3 : World} {B g M n : Nat} {l : List Nat} {vN : Value} (hb : Below B w x) (hB : B ≤ x.heap.size) (hn : x.ownsRow B 5 1 vN n ((toI l).map (Value.int .u8))) (hl : l.length = n) (h256 : ∀ y ∈ l, y < 256)
    (LT : Dk.Lent (x.alloc (.cells #[.slice none 0 0, .int .i64 0] 31)) w3 x.heap.size x.heap.size none g M l) :
    St w (w3.alloc (.cells #[.slice none 0 0, .slice none 0 0] 35)) B x.heap.size g M w3.heap.size n l l vN (.slice none 0 0) (.slice none 0 0) [] := by
  have b1 : Below x.heap.size x (x.alloc (.cells #[.slice none 0 0, .int .i64 0] 31)) := (Below.refl _ _).alloc (Nat.le_refl _) _
  have z1 : (x.alloc (.cells #[.slice none 0 0, .int .i64 0] 31)).heap.size = x.heap.size + 1 := World.size_alloc _ _
  have kD : ∀ q, Dk.dB x.heap.size none q → q = x.heap.size := fun q hq => by
    rcases hq with e | ⟨y, e, _⟩
    · exact e
    · cases e
  have z3 := LT.ch.size
  have nD := LT.desk.nD g rfl
  have hg : x.heap.size < g := by
    rcases LT.old with e | e
    · exact absurd (kD g e) nD
    · omega
  have hgl := (LT.desk.own.lt g rfl).2
  have b2 : Below w3.heap.size w3 (w3.alloc (.cells #[.slice none 0 0, .slice none 0 0] 35)) := (Below.refl _ _).alloc (Nat.le_refl _) _
  have b3 : Below B (x.alloc (.cells #[.slice none 0 0, .int .i64 0] 31)) w3 := LT.ch.below (fun q hq => by rw [kD q hq]; exact hB) (by omega)
  have dk1 := LT.desk
  rw [hl] at dk1
  have dk0 : Dk.DeskAt w3 B x.heap.size (some ⟨g, 0, none⟩) M n (toI (Dk.dk l M)) := ⟨dk1.c0, dk1.c1, dk1.fz, owns_mono dk1.own hB, dk1.nD, hB, dk1.hN⟩
  have now3 : w3.ownsRow B 5 1 vN n ((toI l).map (Value.int .u8)) := LT.ch.owns (owns_below hn b1) (fun q hq e => by have h1 := (hn.lt q hq).2; have h2 := kD q e; omega)
  have nb : ∀ q, Ll.bB w3.heap.size (.slice none 0 0) (.slice none 0 0) [] q → q = w3.heap.size := fun q hq => by
    rcases hq with e | e | e | ⟨e, he, _⟩
    · exact e
    · simp [Value.ownBlock] at e
    · simp [Value.ownBlock] at e
    · simp at he
  exact { desk := dk0.below b2, now := owns_below now3 b2, lists := lists_new w3 B (by omega), len := hl, lem := hl, le := by rw [← hl]; exact LT.le, b256 := h256, b256m := h256,
          nN := fun q hq => by
            have h1 := (hn.lt q hq).2
            exact ⟨by omega, by omega, fun hb => by have := nb q hb; omega⟩,
          nL := fun q hq => by have := nb q hq; constructor <;> omega,
          bel := (hb.trans ((b1.mono hB).trans b3)).trans (b2.mono (by omega)), hB := by have := b2.size; omega }
variable {w wr wx : World} {B D g M K n : Nat} {l m : List Nat} {vN vL vW : Value} {E : List Ll.BE}
theorem St.seg (h : St w wr B D g M K n l m vN vL vW E) : Seg .u8 wr (some ⟨g, 0, none⟩) (toI l) := Dk.seg_pre (owns_at h.desk.own).1
theorem St.cap (h : St w wr B D g M K n l m vN vL vW E) : M ≤ 2097664 := h.desk.hN
theorem St.back {a : Option Addr} {c : Nat} (h : St w wr B D g M K n l l (.slice a n c) vL vW E) : Calls Tryd.prog 17 #[.pointer (some ⟨D, 0, none⟩), .slice a n c] wr fun e w' => e = .returned (.bool true) ∧ Below wr.heap.size wr w' := by
  have hd := h.desk
  have e := h.len
  subst e
  exact Dk.back_any wr B D g M a c l hd h.le (owns_at h.now).1 h.b256
/-- a list that was handed out just now is kept -/
theorem St.kept {s : Nat} {a : Option Addr} {c k : Nat} {oe : List Ll.OE} (h : St w wr B D g M K n l m vN vL vW E) (ho : Ll.OwnO wr s (.slice a k c) k oe) (hl : oe.length = k) (hk : k ≤ 65535) (hE : E.length ≤ 1000) (hs : ∀ q, (Value.slice a k c).ownBlock = some q → q ≠ g ∧ q ≠ D ∧ vN.ownBlock ≠ some q ∧ ¬ Ll.bB K vL vW E q) (hsB : B ≤ s) :
    Calls Tryd.prog 18 #[.pointer (some ⟨K, 0, none⟩), .slice a k c] wr fun e w' => e = .returned (.tuple #[]) ∧ ∃ vL' vW' E', St w w' B D g M K n l m vN vL' vW' E' ∧ E'.length = E.length + 1 ∧ Ch (Ll.bB K vL vW E) wr w' ∧ ∀ q, Ll.bB K vL' vW' E' q → Ll.bB K vL vW E q ∨ (Value.slice a k c).ownBlock = some q ∨ wr.heap.size ≤ q := by
  subst hl
  have hf : ∀ q, (Value.slice a oe.length c).ownBlock = some q → ¬ Ll.bB K vL vW E q := fun q hq => (hs q hq).2.2.2
  refine (Ll.keep_any wr B K vL vW E h.lists (by omega) h.hB a c oe (owns_mono ho hsB) hk hf).mono ?_
  rintro e w' ⟨he, vL', vW', wa, wc, kp⟩
  exact ⟨he, vL', vW', _, h.keep kp (fun q hq => ⟨(hs q hq).1, (hs q hq).2.1, (hs q hq).2.2.1⟩), by simp, kp.ch, kp.new⟩
/-- blocks made since are none of its own -/
theorem St.fresh (h : St w wr B D g M K n l m vN vL vW E) (q : Nat) (hq : wr.heap.size ≤ q) : q ≠ g ∧ q ≠ D ∧ vN.ownBlock ≠ some q ∧ ¬ Ll.bB K vL vW E q := by
  have h1 := h.gB
  have h2 := h.DB
  exact ⟨by omega, by omega, fun e => by have := (h.now.lt q e).2; omega, fun e => by have := (h.lists.lt q e).2; omega⟩
end Go.Proofs.YtfoeepbndfnifaaDoor.Ag6
namespace Go.Proofs.YtfoeepbndfnifaaDoor
open Go.RowKit
open L4 (U9 T9)
open Ag6
def roE (bs : List Nat) : Nat := match L4.readO bs with
  | some _ => 0
  | none => 97
def roV (bs : List Nat) : List (Int × List Nat) := match L4.readO bs with
  | some ops => ops.map (fun o => I4.intO (I4.ov bs o))
  | none => []
theorem ops_few {ob : List Nat} {ops : List I4.Op4} (h : L4.readO ob = some ops) (h256 : ∀ x ∈ ob, x < 256) : ops.length ≤ 40 := by
  have hr := L4.readO_some h
  have h1 := (I4.scan_in _ 0 ops hr.2.1 (Nat.zero_le _) h256).2
  have h2 := flat_few (ops.map (I4.ov ob))
  have h3 := hr.1
  rw [List.length_map] at h2
  omega
theorem ropts_v (a : Option Addr) (n cap : Nat) (bs : List Nat) (w : World) (hd : DOk w bs a n cap) :
    Calls Tryd.prog 12 #[.slice a n cap] w fun e w' => ∃ (ga : Option Addr) (kn gc : Nat) (ls : List OpV), e = .returned (.tuple #[.slice ga kn gc, .int .i64 (roE bs : Nat)]) ∧ Below w.heap.size w w' ∧ OptsAt w' ga ls ∧ ls.length = kn ∧ vals ls = roV bs := by
  refine (ropts_any a n cap bs w hd.dl hd.seg hd.d256 hd.cap).mono ?_
  rintro e w' ⟨hb, hr⟩
  rcases hr with ⟨ops, lb, lc, ps, hro, rfl, hl, hv, hat, _⟩ | ⟨hro, rfl⟩
  · exact ⟨lb, ops.length, lc, ps, by unfold roE; rw [hro]; rfl, hb, hat, hl, by rw [hv]; unfold roV; rw [hro]⟩
  · exact ⟨none, 0, 0, [], by unfold roE; rw [hro]; rfl, hb, .inl rfl, rfl, by unfold roV; rw [hro]; rfl⟩
theorem parseT_o (V U : Int) (x y : Nat → Nat) (a : Option Addr) (n cap : Nat) (bs : List Nat) (w : World) (hw : TW w) (hlw : LW w) (hd : DOk w bs a n cap) (hx : ∀ i, i < 16 → x i < 256) (hy : ∀ i, i < 16 → y i < 256) :
    Calls Tryd.prog 9 #[.agg (ipCells V x), .agg (ipCells U y), .slice a n cap] w fun e w' => ∃ (er : Nat) (t : T9) (la : Option Addr) (ln lc : Nat) (os : List OpV) (da : Option Addr) (m : Nat), e = .returned (.tuple #[.agg (tC t la ln lc da m m), .int .i64 (er : Nat)]) ∧ Below w.heap.size w w' ∧ er = L4.tPE (psOk V U x y) (psL V U x y 6 (n : Nat)) bs ∧ TOk w' t la ln os da m m ∧ (er = 0 → t = L4.tP bs ∧ m = bs.length - L4.tH bs ∧ da = cutA a (L4.tH bs) m) ∧ (er ≠ 0 → t = t9z ∧ la = none ∧ ln = 0 ∧ lc = 0 ∧ os = [] ∧ da = none ∧ m = 0) ∧ ∃ oe, Ll.OwnO w' w.heap.size (.slice la ln lc) ln oe ∧ oe.length = ln ∧ ln ≤ 40 := by
  refine (parseT_u V U x y a n cap bs w hw hlw hd hx hy).mono ?_
  rintro e w' ⟨er, t, la, ln, lc, os, da, m, rfl, hb, her, hok, h0, h1, h2⟩
  refine ⟨er, t, la, ln, lc, os, da, m, rfl, hb, her, hok, h0, h1, ?_⟩
  by_cases hz : er = 0
  · obtain ⟨ops, hro, hln, _, hown⟩ := h2 hz
    have o256 : ∀ z ∈ L4.tOb bs, z < 256 := fun z hz => hd.d256 z (List.mem_of_mem_drop (List.mem_of_mem_take hz))
    have hf := ops_few hro o256
    rw [← oes_cells] at hown
    exact ⟨oes (a20 a cap) ops, hown, by simp [oes, hln], by omega⟩
  · obtain ⟨_, rfl, rfl, rfl, _⟩ := h1 hz
    exact ⟨[], World.ownsRow_nil _ _ _ _, rfl, by decide⟩
theorem topt_o (a : Option Addr) (cap n : Nat) (bs : List Nat) (w : World) (hlw : LW w) (hd : DOk w bs a n cap) :
    Calls Tryd.prog 11 #[.slice a n cap] w fun e w' => ∃ (ga : Option Addr) (kn gc : Nat) (ls : List OpV), e = .returned (.tuple #[.slice ga kn gc, .int .i64 (roE bs : Nat)]) ∧ Below w.heap.size w w' ∧ OptsAt w' ga ls ∧ ls.length = kn ∧ kn ≤ 40 ∧ vals ls = roV bs ∧ ∃ oe, Ll.OwnO w' w.heap.size (.slice ga kn gc) kn oe ∧ oe.length = kn := by
  refine (topt_any a cap n bs w hlw hd.dl hd.seg hd.d256 hd.cap hd.top).mono ?_
  rintro e w' ⟨v, er, rfl, hb, hr⟩
  rcases hr with ⟨ops, hro, rfl, hown⟩ | ⟨hro, rfl, rfl⟩
  · obtain ⟨ga, gc, rfl⟩ := owns_shape hown
    have hin := fun q hq => ((I4.scan_in _ 0 ops (L4.readO_some hro).2.1 (Nat.zero_le _) hd.d256).1 q hq).2.2.2
    have hf := ops_few hro hd.d256
    have h40 := (L4.readO_some hro).1
    have hat := opts_of_own hown rfl (hd.seg.old hb) hd.d256 hin (by omega)
    rw [← oes_cells] at hown
    exact ⟨ga, ops.length, gc, ops.map (opV a bs), by unfold roE; rw [hro]; rfl, hb, hat, by rw [List.length_map], hf, by rw [vals_opV]; unfold roV; rw [hro], oes a ops, hown, by simp [oes]⟩
  · exact ⟨none, 0, 0, [], by unfold roE; rw [hro]; rfl, hb, .inl rfl, rfl, by omega, by unfold roV; rw [hro]; rfl, [], World.ownsRow_nil _ _ _ _, rfl⟩
/-- what ParseUdp and ParseTcp answer, by name -/
def pUe (V U : Int) (x y : Nat → Nat) (bs : List Nat) : Nat := L4.uPE V (psOk V U x y) (psL V U x y 17 (L4.uN bs : Nat)) bs
def pUv (V U : Int) (x y : Nat → Nat) (bs : List Nat) : U9 := if pUe V U x y bs = 0 then L4.uP bs else u9z
def pTe (V U : Int) (x y : Nat → Nat) (bs : List Nat) : Nat := L4.tPE (psOk V U x y) (psL V U x y 6 (bs.length : Nat)) bs
def pTv (V U : Int) (x y : Nat → Nat) (bs : List Nat) : T9 := if pTe V U x y bs = 0 then L4.tP bs else t9z
theorem parseU_o (V U : Int) (x y : Nat → Nat) (a : Option Addr) (n cap : Nat) (bs : List Nat) (w : World) (hw : UW w) (hd : DOk w bs a n cap) (hx : ∀ i, i < 16 → x i < 256) (hy : ∀ i, i < 16 → y i < 256) :
    Calls Tryd.prog 7 #[.agg (ipCells V x), .agg (ipCells U y), .slice a n cap] w fun e w' => ∃ (da : Option Addr) (m : Nat), e = .returned (.tuple #[.agg (uC (pUv V U x y bs) da m m), .int .i64 (pUe V U x y bs : Nat)]) ∧ Below w.heap.size w w' ∧ DOk w' (pUv V U x y bs).d da m m := by
  refine (parseU_u V U x y a n cap bs w hw hd hx hy).mono ?_
  rintro e w' ⟨er, u, da, m, rfl, hb, her, hok, h0, h1⟩
  have eu : u = pUv V U x y bs := by
    unfold pUv
    by_cases hz : er = 0
    · rw [if_pos (show pUe V U x y bs = 0 from her.symm.trans hz)]; exact (h0 hz).1
    · rw [if_neg (show ¬ pUe V U x y bs = 0 from fun h => hz (her.trans h))]; exact (h1 hz).1
  rw [← eu]
  exact ⟨da, m, by rw [her]; rfl, hb, hok⟩
theorem rparseU_o (V U : Int) (x y : Nat → Nat) (a : Option Addr) (n cap : Nat) (bs : List Nat) (w : World) (hd : DOk w bs a n cap) (hx : ∀ i, i < 16 → x i < 256) (hy : ∀ i, i < 16 → y i < 256) :
    Calls Tryd.prog 8 #[.agg (ipCells V x), .agg (ipCells U y), .slice a n cap] w fun e w' => ∃ (da : Option Addr) (m mc : Nat), e = .returned (.tuple #[.agg (uC (pUv V U x y bs) da m mc), .int .i64 (pUe V U x y bs : Nat)]) ∧ Below w.heap.size w w' ∧ DOk w' (pUv V U x y bs).d da m mc := by
  refine (rparseU_any V U x y a n cap bs w hd hx hy).mono ?_
  rintro e w' ⟨er, u, da, m, mc, rfl, hb, her, hok, h0, h1⟩
  have eu : u = pUv V U x y bs := by
    unfold pUv
    by_cases hz : er = 0
    · rw [if_pos (show pUe V U x y bs = 0 from her.symm.trans hz)]; exact h0 hz
    · rw [if_neg (show ¬ pUe V U x y bs = 0 from fun h => hz (her.trans h))]; exact (h1 hz).1
  rw [← eu]
  exact ⟨da, m, mc, by rw [her]; rfl, hb, hok⟩
theorem parseT_p (V U : Int) (x y : Nat → Nat) (a : Option Addr) (n cap : Nat) (bs : List Nat) (w : World) (hw : TW w) (hlw : LW w) (hd : DOk w bs a n cap) (hx : ∀ i, i < 16 → x i < 256) (hy : ∀ i, i < 16 → y i < 256) :
    Calls Tryd.prog 9 #[.agg (ipCells V x), .agg (ipCells U y), .slice a n cap] w fun e w' => ∃ (la : Option Addr) (ln lc : Nat) (os : List OpV) (da : Option Addr) (m : Nat) (oe : List Ll.OE), e = .returned (.tuple #[.agg (tC (pTv V U x y bs) la ln lc da m m), .int .i64 (pTe V U x y bs : Nat)]) ∧ Below w.heap.size w w' ∧ TOk w' (pTv V U x y bs) la ln os da m m ∧ Ll.OwnO w' w.heap.size (.slice la ln lc) ln oe ∧ oe.length = ln ∧ ln ≤ 40 := by
  refine (parseT_o V U x y a n cap bs w hw hlw hd hx hy).mono ?_
  rintro e w' ⟨er, u, la, ln, lc, os, da, m, rfl, hb, her, hok, h0, h1, oe, ho, hl, h40⟩
  rw [← hd.dl] at her
  have eu : u = pTv V U x y bs := by
    unfold pTv
    by_cases hz : er = 0
    · rw [if_pos (show pTe V U x y bs = 0 from her.symm.trans hz)]; exact (h0 hz).1
    · rw [if_neg (show ¬ pTe V U x y bs = 0 from fun h => hz (her.trans h))]; exact (h1 hz).1
  rw [← eu]
  exact ⟨la, ln, lc, os, da, m, oe, by rw [her]; rfl, hb, hok, ho, hl, h40⟩
theorem rparseT_o (V U : Int) (x y : Nat → Nat) (a : Option Addr) (n cap : Nat) (bs : List Nat) (w : World) (hd : DOk w bs a n cap) (hx : ∀ i, i < 16 → x i < 256) (hy : ∀ i, i < 16 → y i < 256) :
    Calls Tryd.prog 10 #[.agg (ipCells V x), .agg (ipCells U y), .slice a n cap] w fun e w' => ∃ (la : Option Addr) (ln lc : Nat) (os : List OpV) (da : Option Addr) (m mc : Nat), e = .returned (.tuple #[.agg (tC (pTv V U x y bs) la ln lc da m mc), .int .i64 (pTe V U x y bs : Nat)]) ∧ Below w.heap.size w w' ∧ TOk w' (pTv V U x y bs) la ln os da m mc ∧ (∀ z, la = some z → w.heap.size ≤ z.block) ∧ (∀ o ∈ os, ∀ z, o.a = some z → w.heap.size ≤ z.block) := by
  refine (rparseT_full V U x y a n cap bs w hd hx hy).mono ?_
  rintro e w' ⟨er, u, la, ln, lc, os, da, m, mc, rfl, hb, her, hok, h0, h1, f1, f2⟩
  rw [← hd.dl] at her
  have eu : u = pTv V U x y bs := by
    unfold pTv
    by_cases hz : er = 0
    · rw [if_pos (show pTe V U x y bs = 0 from her.symm.trans hz)]; exact h0 hz
    · rw [if_neg (show ¬ pTe V U x y bs = 0 from fun h => hz (her.trans h))]; exact (h1 hz).1
  rw [← eu]
  exact ⟨la, ln, lc, os, da, m, mc, by rw [her]; rfl, hb, hok, f1, f2⟩
theorem seg_ne_u9 {w : World} {O : Nat} {u : U9} {da : Option Addr} {n c : Nat} {va : Option Addr} {l : List Int} (h : UAt w O u da n c) (hs : Seg .u8 w va l) (z : Addr) (hl : l ≠ []) (hz : va = some z) : z.block ≠ O := by
  rcases hs with h0 | ⟨b, off, e, hc⟩
  · exact absurd h0 hl
  · rw [hz] at e
    have e' := Option.some.inj e
    subst e'
    intro hO
    have hO' : b = O := hO
    subst hO'
    have h1 := hc 0 (List.length_pos_iff.2 hl)
    rw [h.cell] at h1
    simp only [uC, Nat.add_zero] at h1
    match off, h1 with
    | 0, h1 => simp at h1
    | 1, h1 => simp at h1
    | 2, h1 => simp at h1
    | 3, h1 => simp at h1
    | o + 4, h1 => simp at h1
theorem seg_ne_t9 {w : World} {O : Nat} {t : T9} {la : Option Addr} {ln lc : Nat} {da : Option Addr} {n c : Nat} {va : Option Addr} {l : List Int} (h : TAt w O t la ln lc da n c) (hs : Seg .u8 w va l) (z : Addr) (hl : l ≠ []) (hz : va = some z) : z.block ≠ O := by
  rcases hs with h0 | ⟨b, off, e, hc⟩
  · exact absurd h0 hl
  · rw [hz] at e
    have e' := Option.some.inj e
    subst e'
    intro hO
    have hO' : b = O := hO
    subst hO'
    have h1 := hc 0 (List.length_pos_iff.2 hl)
    rw [h.cell] at h1
    simp only [tC, Nat.add_zero] at h1
    match off, h1 with
    | 0, h1 => simp at h1
    | 1, h1 => simp at h1
    | 2, h1 => simp at h1
    | 3, h1 => simp at h1
    | 4, h1 => simp at h1
    | 5, h1 => simp at h1
    | 6, h1 => simp at h1
    | 7, h1 => simp at h1
    | 8, h1 => simp at h1
    | o + 9, h1 => simp at h1
theorem dokU_store {w wE : World} {Q : Nat} {u : U9} {pa : Option Addr} {pn pc : Nat} {d : List Nat} {da : Option Addr} {n c : Nat} (h : DOk w d da n c) (b : UAt w Q u pa pn pc) (k : Ch (fun q => q = Q) w wE) : DOk wE d da n c := { h with seg := k.seg h.seg (fun z hl hz e => seg_ne_u9 b h.seg z hl hz e) }
theorem tokT_store {w wE : World} {Q s : Nat} {t : T9} {pl : Option Addr} {pk pm : Nat} {pa : Option Addr} {pn pc : Nat} {t' : T9} {la : Option Addr} {ln : Nat} {os : List OpV} {da : Option Addr} {n c : Nat} (h : TOk w t' la ln os da n c ∧ (∀ z, la = some z → s ≤ z.block) ∧ (∀ o ∈ os, ∀ z, o.a = some z → s ≤ z.block)) (b : TAt w Q t pl pk pm pa pn pc) (hQ : Q < s) (k : Ch (fun q => q = Q) w wE) : TOk wE t' la ln os da n c :=
  { h.1 with
    oat := h.1.oat.ch k (fun z hz e => by have := h.2.1 z hz; have e' : z.block = Q := e; omega) (fun o ho z hz e => by have := h.2.2 o ho z hz; have e' : z.block = Q := e; omega)
    d := { h.1.d with seg := k.seg h.1.d.seg (fun z hl hz e => seg_ne_t9 b h.1.d.seg z hl hz e) } }
end Go.Proofs.YtfoeepbndfnifaaDoor
