/-
  OpenOpsU Law3t, one behind the other.
-/
import Derived.Test.YthknkfggpdhdbaaK3c
import Derived.Test.YthknkfggpdhdbaaBulk
import Derived.Test.YthknkfggpdhdbaaK3i
namespace Go.Proofs.Ythknkfggpdhdbaa
open Go.RowKit Go.ChangeShapes Go.WideShapes

theorem bulk_memG {H : Type} {d : DataW H} {l : List (DataW H)} (h : d ∈ l) : Rows.uptoBulk d ≤ Rows.uptoBulkAll l := by
  induction l with
  | nil => cases h
  | cons x r ih =>
    simp only [Rows.uptoBulkAll]
    cases List.mem_cons.1 h with
    | inl e => subst e; omega
    | inr e => have := ih e; omega
theorem open_listB {α : Type} (K : Nat) (cells : α → List Value) (ok : α → Prop) {H : Type} {enc : TypeId × Value → H} {W : World} {t e : TypeId} {a : Option Addr} {len cap : Nat} {d : DataW H} {p : List MemPlace} {fuel : Nat}
    (ht : Try.prog.underlying t = some (.slice e)) (hc : Try.prog.cellsOf e = K) (hK : 0 < K) (hcl : ∀ o, (cells o).length = K)
    (hel : ∀ (fuel : Nat) (cs : List Value) (x : DataW H × List MemPlace), DataW.trod enc Try.prog W 0 (fun _ => true) true fuel e cs = some x → Rows.uptoBulk x.1 ≤ 1048576 → ∃ o : α, cs = cells o ∧ ok o)
    (h : DataW.trod enc Try.prog W 0 (fun _ => true) true fuel t [.slice a len cap] = some (d, p)) (hbulk : Rows.uptoBulk d ≤ 1048576) :
    ∃ ops : List α, ops.length = len ∧ ListG K cells ok W a ops ∧ len ≤ 1048576 := by
  rcases Deep.open_slice ht h with ⟨hcs, hx⟩ | ⟨ad, l, c, m, n, D, Pl, hcs, _, hl, hm, hmm, hx, hev⟩
  · simp only [List.cons.injEq, Value.slice.injEq, and_true] at hcs
    obtain ⟨rfl, rfl, rfl⟩ := hcs
    exact ⟨[], rfl, .inl rfl, by omega⟩
  · simp only [List.cons.injEq, Value.slice.injEq, and_true] at hcs
    obtain ⟨rfl, rfl, rfl⟩ := hcs
    simp only [if_true] at hmm
    subst hmm
    have e' := (Prod.mk.inj hx).1
    subst e'
    simp only [Rows.uptoBulk] at hbulk
    have hlen : len ≤ 1048576 := by
      have := bulk_len ((List.range len).map D)
      simp only [List.length_map, List.length_range] at this
      omega
    have hD : ∀ i, i < len → Rows.uptoBulk (D i) ≤ 1048576 := fun i hi => by
      have := bulk_memG (d := D i) (l := (List.range len).map D) (List.mem_map.2 ⟨i, List.mem_range.2 hi, rfl⟩)
      omega
    have hall : ∀ i, i < len → ∃ o : α, ok o ∧ ∀ j, j < K → W.cell? (ad.add (i * K + j)) = (cells o)[j]? := by
      intro i hi
      obtain ⟨cs', h1, h2⟩ := hev i (by omega)
      rw [hc] at h1
      obtain ⟨_, _, hcc⟩ := World.cells?_some h1
      obtain ⟨o, rfl, hok⟩ := hel _ _ _ h2 (hD i hi)
      refine ⟨o, hok, fun j hj => ?_⟩
      have := hcc j hj
      rwa [Deep.add_add] at this
    have hbuild : ∀ k, k ≤ len → ∃ ops : List α, ops.length = k ∧ ∀ i o, ops[i]? = some o → ok o ∧ ∀ j, j < K → W.cell? (ad.add (i * K + j)) = (cells o)[j]? := by
      intro k
      induction k with
      | zero => intro _; exact ⟨[], rfl, by intro i o ho; simp at ho⟩
      | succ k ih =>
        intro hk
        obtain ⟨ops, hl', hops⟩ := ih (by omega)
        obtain ⟨o, ho⟩ := hall k (by omega)
        refine ⟨ops ++ [o], by simp [hl'], ?_⟩
        intro i o' hi'
        by_cases hik : i < k
        · rw [List.getElem?_append_left (by omega)] at hi'
          exact hops i o' hi'
        · rw [List.getElem?_append_right (by omega)] at hi'
          have hi0 : i = k := by
            have := (List.getElem?_eq_some_iff.1 hi').1
            simp at this
            omega
          subst hi0
          rw [hl', Nat.sub_self] at hi'
          simp at hi'
          subst hi'
          exact ho
    obtain ⟨ops, hol, hops⟩ := hbuild len (Nat.le_refl _)
    refine ⟨ops, hol, ?_, hlen⟩
    by_cases h0 : ops = []
    · exact .inl h0
    · have hpos : 0 < ops.length := by
        cases ops with
        | nil => exact absurd rfl h0
        | cons _ _ => simp
      obtain ⟨o, ho⟩ : ∃ o, ops[0]? = some o := ⟨ops[0], by simp [hpos]⟩
      have hc0 := (hops 0 o ho).2 0 hK
      simp only [Nat.zero_mul, Nat.zero_add] at hc0
      obtain ⟨v0, hv0⟩ : ∃ v0, (cells o)[0]? = some v0 := ⟨(cells o)[0]'(by rw [hcl]; exact hK), by simp [hcl, hK]⟩
      rw [hv0] at hc0
      obtain ⟨b, off, spot⟩ := ad
      have hspot : spot = none := by simpa [Addr.add] using World.cell?_spot hc0
      subst hspot
      refine .inr ⟨b, off, rfl, World.block_lt_of_cell? W _ hc0, fun i o' hi' => ⟨(hops i o' hi').1, fun j hj => ?_⟩⟩
      have := (hops i o' hi').2 j hj
      rw [Addr.add_lit] at this
      rw [Nat.add_assoc]
      exact this
/-- a slice of integers in a field -/

theorem open_rowB {H : Type} {enc : TypeId × Value → H} {W : World} {fuel : Nat} {t e : TypeId} {k : IntKind} {c : Value} {y : DataW H × List MemPlace} (ht : Try.prog.underlying t = some (.slice e)) (he : Try.prog.underlying e = some (.int k)) (hc : Try.prog.cellsOf e = 1)
    (h : DataW.trod enc Try.prog W 0 (fun _ => true) true fuel t [c] = some y) : ∃ a len cap zs, c = .slice a len cap ∧ IsRow k W a len cap zs ∧ cap ≤ Rows.uptoBulk y.1 := by
  rcases open_ints ht he hc h with ⟨hcs, hx⟩ | ⟨x, l, cp, zs, hcs, _, hl, hm, hz, hx, hcell, hwz⟩
  · simp only [List.cons.injEq, and_true] at hcs
    subst hcs
    exact ⟨none, 0, 0, [], rfl, .inl ⟨rfl, rfl, rfl, rfl⟩, Nat.zero_le _⟩
  · simp only [List.cons.injEq, and_true] at hcs
    subst hcs
    exact ⟨_, l, cp, zs, rfl, .inr ⟨_, rfl, hl, hm, by simpa using hz, hcell, hwz⟩, bulk_row hl (by simpa using hz) hx⟩
theorem open_opB {H : Type} {enc : TypeId × Value → H} {W : World} (fuel : Nat) (cs : List Value) (x : DataW H × List MemPlace)
    (h : DataW.trod enc Try.prog W 0 (fun _ => true) true fuel 68 cs = some x) (hbulk : Rows.uptoBulk x.1 ≤ 1048576) : ∃ o : OpV, cs = o.cells ∧ o.ok W ∧ o.fr.length ≤ 1048576 := by
  obtain ⟨xs, n, _, rfl, hl, hlen, hf⟩ := DataW.trod_struct Try.underlying68 h
  rw [Try.cellsOp] at hl
  obtain ⟨c0, c1, c2, c3, c4, rfl⟩ := list5 cs hl
  obtain ⟨y0, y1, y2, y3, y4, rfl⟩ := list5 xs hlen
  have f0 := hf 0 _ rfl
  have f1 := hf 1 _ rfl
  have f2 := hf 2 _ rfl
  have f3 := hf 3 _ rfl
  have f4 := hf 4 _ rfl
  simp [Try.cellsInt, Try.cellsBool, Try.cellsBytes] at f0 f1 f2 f3 f4
  obtain ⟨kd, rfl, _⟩ := open_i64G f0
  obtain ⟨two, e1, _⟩ := DataW.trod_bool Try.underlying4 f1
  simp only [List.cons.injEq, and_true] at e1
  subst e1
  obtain ⟨i, rfl, _⟩ := open_i64G f2
  obtain ⟨nn, rfl, hn1, hn2⟩ := open_i64G f3
  obtain ⟨a, len, cap, zs, rfl, hr, hb⟩ := open_rowB Try.underlying43 Try.underlying5 Try.cellsByte f4
  simp only [List.map_cons, List.map_nil, Rows.uptoBulk, Rows.uptoBulkAll] at hbulk
  obtain ⟨bs, hl, hs, h1, h2, h256⟩ := hr.bytes
  exact ⟨⟨kd, two, i, nn, a, cap, bs⟩, by simp [OpV.cells, hl], ⟨hs, h256, ⟨hn1, hn2⟩, by show bs.length ≤ _; omega⟩, by show bs.length ≤ _; omega⟩
def OpsU (w : World) (a : Option Addr) (ops : List OpV) : Prop := ListG 5 OpV.cells (fun o => OpV.ok w o ∧ o.fr.length ≤ 1048576) w a ops
theorem open_opsU {H : Type} {enc : TypeId × Value → H} {W : World} {a : Option Addr} {len cap : Nat} {d : DataW H} {p : List MemPlace} {fuel : Nat}
    (h : DataW.trod enc Try.prog W 0 (fun _ => true) true fuel 34 [.slice a len cap] = some (d, p)) (hbulk : Rows.uptoBulk d ≤ 1048576) :
    ∃ ops : List OpV, ops.length = len ∧ OpsU W a ops ∧ len ≤ 1048576 :=
  open_listB 5 OpV.cells (fun o => OpV.ok W o ∧ o.fr.length ≤ 1048576) Try.underlying34 Try.cellsOp (by decide) (fun _ => rfl) open_opB h hbulk
end Go.Proofs.Ythknkfggpdhdbaa
namespace Go.Proofs.Ythknkfggpdhdbaa
open Go.RowKit

/-- whatever the four numbers are -/
theorem made_any (w : World) (rx tx pool size : Int) :
    Calls Try.prog 10 #[.int .i64 rx, .int .i64 tx, .int .i64 pool, .int .i64 size] w fun e w' => ∃ v, e = .returned (.tuple #[.agg v.cells, .bool true]) ∧ SideOk w.heap.size w' v ∧ Below w.heap.size w w' ∧ v.W = [] ∧ v.r.now ≤ 8192 := by
  by_cases h : nOut rx tx pool size
  · exact made_no w rx tx pool size h
  · unfold nOut at h
    obtain ⟨a, rfl⟩ : ∃ a : Nat, rx = (a : Int) := ⟨rx.toNat, by omega⟩
    obtain ⟨b, rfl⟩ : ∃ b : Nat, tx = (b : Int) := ⟨tx.toNat, by omega⟩
    obtain ⟨c, rfl⟩ : ∃ c : Nat, pool = (c : Int) := ⟨pool.toNat, by omega⟩
    obtain ⟨d, rfl⟩ : ∃ d : Nat, size = (d : Int) := ⟨size.toNat, by omega⟩
    refine (made_yes w a b c d (by omega) (by omega) (by omega) (by omega)).mono ?_
    rintro e w' ⟨v, h1, h2, h3, h4, h5, _⟩
    exact ⟨v, h1, h2, h3, h4, h5⟩
/-- two ports in turns -/
structure Pl (w x : World) (vp vq : SV) (XP XQ k : Nat) : Prop where
  okp : SideOk w.heap.size x vp
  okq : SideOk w.heap.size x vq
  bp : SdAt x XP vp
  bq : SdAt x XQ vq
  bel : Below w.heap.size w x
  fp : ∀ q, vp.all q → q ≠ XP ∧ q ≠ XQ
  fq : ∀ q, vq.all q → q ≠ XP ∧ q ≠ XQ
  dis : ∀ q, vp.all q → ¬ vq.all q
  np : vp.r.now ≤ 8192 * (k + 1)
  nq : vq.r.now ≤ 8192 * (k + 1)
  wp : vp.W.length ≤ k
  wq : vq.W.length ≤ k
  hP : w.heap.size ≤ XP
  hQ : w.heap.size ≤ XQ
  ne : XP ≠ XQ
variable {w x x2 x3 : World} {vp vq v' : SV} {XP XQ k : Nat}
theorem Pl.below (h : Pl w x vp vq XP XQ k) (hb : Below x.heap.size x x2) : Pl w x2 vp vq XP XQ k :=
  ⟨h.okp.below hb, h.okq.below hb, h.bp.below hb, h.bq.below hb, h.bel.trans (hb.mono h.bel.size), h.fp, h.fq, h.dis, h.np, h.nq, h.wp, h.wq, h.hP, h.hQ, h.ne⟩
theorem Pl.more (h : Pl w x vp vq XP XQ k) : Pl w x vp vq XP XQ (k + 1) :=
  ⟨h.okp, h.okq, h.bp, h.bq, h.bel, h.fp, h.fq, h.dis, by have := h.np; omega, by have := h.nq; omega, by have := h.wp; omega, by have := h.wq; omega, h.hP, h.hQ, h.ne⟩
theorem Pl.swap (h : Pl w x vp vq XP XQ k) : Pl w x vq vp XQ XP k :=
  ⟨h.okq, h.okp, h.bq, h.bp, h.bel, fun q hq => (h.fq q hq).symm, fun q hq => (h.fp q hq).symm, fun q h1 h2 => h.dis q h2 h1, h.nq, h.np, h.wq, h.wp, h.hQ, h.hP, Ne.symm h.ne⟩
/-- a step on the first of them -/
theorem Pl.step (h : Pl w x vp vq XP XQ k) (st : Stepped w.heap.size x x2 vp v') (hb : SdAt x3 XP v') (k3 : Ch (fun q => q = XP) x2 x3) : Pl w x3 v' vq XP XQ (k + 1) := by
  have lp := h.bp.lt
  have lq := h.bq.lt
  have hne := h.ne
  have fp' : ∀ q, v'.all q → q ≠ XP ∧ q ≠ XQ := fun q hq => by
    rcases st.new q hq with g | g
    · exact h.fp q g
    · exact ⟨by omega, by omega⟩
  have kk : Ch (fun q => vp.wr q ∨ q = XP) x x3 := (st.ch.mono (fun q _ e => .inl e)).trans k3 (fun q _ e => .inr e)
  refine ⟨st.ok.ch k3 (fun q hq e => (fp' q hq).1 e), h.okq.ch kk (fun q hq e => ?_), hb, h.bq.ch kk (fun e => ?_), h.bel.trans (kk.below (fun q e => ?_) h.bel.size), fp', h.fq, fun q hq hq2 => ?_, ?_, ?_, ?_, ?_, h.hP, h.hQ, h.ne⟩
  · rcases e with e | e
    · exact h.dis q (.inl e) hq
    · exact (h.fq q hq).1 e
  · rcases e with e | e
    · exact (h.fp XQ (.inl e)).2 rfl
    · exact hne e.symm
  · rcases e with e | e
    · exact h.okp.old q (.inl e)
    · have := h.hP; omega
  · rcases st.new q hq with g | g
    · exact h.dis q g hq2
    · have := h.okq.lt q hq2; omega
  · have := st.now; have := h.np; omega
  · have := h.nq; omega
  · have := st.win; have := h.wp; omega
  · have := h.wq; omega
theorem wpList_store_op {ops : Array Oper} {rest : List Oper} {o : Oper} {a : Act} {w : World} {Q : Exit → Act → World → Prop} (x z : Operand) (ho : o.op = .store 68 x z) (hd : o.dst = none) (A : Nat) (C : Array Value) (hC : C.size = 5) (h1 : C.all (·.oneCell') = true) (hx : a.eval x = .pointer (some ⟨A, 0, none⟩)) (hy : a.eval z = .agg C) (hb : w.heap[A]? = some (.cells #[.int .i64 0, .bool false, .int .i64 0, .int .i64 0, .slice none 0 0] 68 (0, 0)))
    (hw : Region.wanted o (yielded ops a.tmps) = true) (h : ∀ w', w'.heap[A]? = some (.cells C 68 (0, 0)) → Ch (fun q => q = A) w w' → wpList Try.prog ops Q rest a w') : wpList Try.prog ops Q (o :: rest) a w := by
  refine wpList_step fun K hK => ?_
  rw [if_pos hw]
  refine wp_store_row 68 x z ho A C hx hy _ #[.int .i64 0, .bool false, .int .i64 0, .int .i64 0, .slice none 0 0] hb (by rw [hC]; exact Try.sizeOp) (by rw [hC]; rfl) h1 (hK _ _ ?_)
  rw [hd]
  refine h _ (setRow_heap w A _ _ _ _ hb) ⟨rfl, rfl, rfl, ?_, ?_⟩
  · simp [World.setRow]
  · intro k hk hne
    simp only [World.setRow]
    rw [Array.getElem?_modify, if_neg (fun e => hne e.symm)]
set_option maxRecDepth 100000 in
set_option maxHeartbeats 12800000 in
theorem plays_any (w : World) (rx tx pool size lo hi : Int) (a : Option Addr) (len cap : Nat) (ops : List OpV) (hl : ops.length = len) (hops : OpsU w a ops) (hlen : len ≤ 1048576) :
    Calls Try.prog 12 #[.int .i64 rx, .int .i64 tx, .int .i64 pool, .int .i64 size, .slice a len cap, .int .i64 lo, .int .i64 hi] w fun e w' => e = .returned (.bool true) ∧ Below w.heap.size w w' := by
  have Q1 : Hid _ := started_any w
  have Q2 : Hid (∀ x, Calls Try.prog 10 #[.int .i64 rx, .int .i64 tx, .int .i64 pool, .int .i64 size] x fun e w' => ∃ v, e = .returned (.tuple #[.agg v.cells, .bool true]) ∧ SideOk x.heap.size w' v ∧ Below x.heap.size x w' ∧ v.W = [] ∧ v.r.now ≤ 8192) := fun x => made_any x rx tx pool size
  have Q3 : Hid (∀ x, Calls Try.prog 10 #[.int .i64 3, .int .i64 2, .int .i64 4, .int .i64 70] x fun e w' => ∃ v, e = .returned (.tuple #[.agg v.cells, .bool true]) ∧ SideOk x.heap.size w' v ∧ Below x.heap.size x w' ∧ v.W = [] ∧ v.r.now ≤ 8192) := fun x => made_any x 3 2 4 70
  have HOPS : Hid (OpsU w a ops) := hops
  have HL : Hid (ops.length = len) := hl
  clear hops hl
  go_enter Try.func12, Try.ntmps12
  go_wp2_with fail
  refine Calls.mono Q1.out ?_
  rintro e w1 ⟨rfl, hb1⟩
  have HB1 : Hid _ := hb1
  clear Q1 hb1
  go_wp2_with fail
  refine Calls.mono (Q2.out w1) ?_
  rintro e w2 ⟨vp, rfl, ok2, hb2, hw2, hn2⟩
  have HB2 : Hid (Below w.heap.size w w2) := HB1.out.trans (hb2.mono HB1.out.size)
  have HOK2 : Hid (SideOk w.heap.size w2 vp) := ok2.base HB1.out.size
  have HVP : Hid (vp.W = [] ∧ vp.r.now ≤ 8192) := ⟨hw2, hn2⟩
  have hz : (w2.alloc (.cells #[.pointer none, .int .i64 0, .int .i64 0, .int .i64 0, .slice none 0 0, .int .i64 0, .slice none 0 0] 29)).heap[w2.heap.size]? = some (.cells zS 29 (0, 0)) := heap_alloc_new _ _
  clear Q2 ok2 hb2 hw2 hn2
  go_wp2_with (first | (refine wpList_store_sd (.tmp 16) (.tmp 29) rfl rfl w2.heap.size zS rfl vp rfl rfl hz rfl ?_))
  intro w3 hbox3 k3
  obtain ⟨XP, hXP⟩ : ∃ XP, XP = w2.heap.size := ⟨_, rfl⟩
  have h0a : Below w2.heap.size w2 (w2.alloc (.cells #[.pointer none, .int .i64 0, .int .i64 0, .int .i64 0, .slice none 0 0, .int .i64 0, .slice none 0 0] 29)) := (Below.refl _ _).alloc (Nat.le_refl _) _
  have b23 : Below w2.heap.size w2 w3 := h0a.trans (k3.below (fun q e => by have e' : q = w2.heap.size := e; omega) h0a.size)
  have HB3 : Hid (Below w.heap.size w w3) := HB2.out.trans (b23.mono HB2.out.size)
  have HOK3 : Hid (SideOk w.heap.size w3 vp) := HOK2.out.below b23
  have HF3 : Hid (∀ q, vp.all q → q < XP) := fun q hq => by rw [hXP]; exact HOK2.out.lt q hq
  have HXP : Hid (w.heap.size ≤ XP) := by show _ ≤ _; rw [hXP]; exact HB2.out.size
  rw [← hXP] at hbox3 ⊢
  have HBX3 : Hid (SdAt w3 XP vp) := hbox3
  clear hz h0a k3 b23 hXP hbox3 HOK2 HB2
  go_wp2_with fail
  refine Calls.mono (Q3.out w3) ?_
  rintro e w4 ⟨vq, rfl, ok4, hb4, hw4, hn4⟩
  have HB4 : Hid (Below w.heap.size w w4) := HB3.out.trans (hb4.mono HB3.out.size)
  have HOK4 : Hid (SideOk w.heap.size w4 vp) := HOK3.out.below hb4
  have HOQ4 : Hid (SideOk w.heap.size w4 vq) := ok4.base HB3.out.size
  have HFQ : Hid (∀ q, vq.all q → w3.heap.size ≤ q) := ok4.old
  have HBX4 : Hid (SdAt w4 XP vp) := HBX3.out.below hb4
  have HLP : Hid (XP < w3.heap.size ∧ w3.heap.size ≤ w4.heap.size) := ⟨HBX3.out.lt, hb4.size⟩
  have hz : (w4.alloc (.cells #[.pointer none, .int .i64 0, .int .i64 0, .int .i64 0, .slice none 0 0, .int .i64 0, .slice none 0 0] 29)).heap[w4.heap.size]? = some (.cells zS 29 (0, 0)) := heap_alloc_new _ _
  have HVQ : Hid (vq.W = [] ∧ vq.r.now ≤ 8192) := ⟨hw4, hn4⟩
  clear Q3 ok4 hb4 hw4 hn4 HBX3 HOK3 HB3
  go_wp2_with (first | (refine wpList_store_sd (.tmp 17) (.tmp 35) rfl rfl w4.heap.size zS rfl vq rfl rfl hz rfl ?_))
  intro w5 hbox5 k5
  obtain ⟨XQ, hXQ⟩ : ∃ XQ, XQ = w4.heap.size := ⟨_, rfl⟩
  have h0a : Below w4.heap.size w4 (w4.alloc (.cells #[.pointer none, .int .i64 0, .int .i64 0, .int .i64 0, .slice none 0 0, .int .i64 0, .slice none 0 0] 29)) := (Below.refl _ _).alloc (Nat.le_refl _) _
  have b45 : Below w4.heap.size w4 w5 := h0a.trans (k5.below (fun q e => by have e' : q = w4.heap.size := e; omega) h0a.size)
  have T0 : Hid (Pl w w5 vp vq XP XQ 0) := by
    have l1 := HLP.out
    have l2 := HF3.out
    have l3 := HFQ.out
    refine ⟨HOK4.out.below b45, HOQ4.out.below b45, HBX4.out.below b45, by rw [hXQ]; exact hbox5, HB4.out.trans (b45.mono HB4.out.size), fun q hq => ?_, fun q hq => ?_, fun q h1 h2 => ?_, by have := HVP.out.2; omega, by have := HVQ.out.2; omega, by rw [HVP.out.1]; exact Nat.le_refl _, by rw [HVQ.out.1]; exact Nat.le_refl _, HXP.out, by rw [hXQ]; exact HB4.out.size, by omega⟩
    · have := l2 q hq; exact ⟨by omega, by omega⟩
    · have := l3 q hq; have := HOQ4.out.lt q hq; exact ⟨by omega, by omega⟩
    · have := l2 q h1; have := l3 q h2; omega
  rw [← hXQ]
  clear hz h0a k5 b45 hXQ hbox5 HOK4 HOQ4 HFQ HBX4 HLP HVQ HVP HB4 HF3 HXP HB1
  go_wp2
  go_loopw [18, 15] (fun ix okv wr => ∃ (k : Nat) (vp vq : SV), k ≤ len ∧ ix = .int .i64 k ∧ okv = .bool true ∧ Hid (Pl w wr vp vq XP XQ k)) (fun ix _ _ => len - (intOf ix).toNat)
  case atStart => exact ⟨0, vp, vq, Nat.zero_le _, rfl, rfl, T0⟩
  case round =>
    obtain ⟨k, vp, vq, hk, rfl, rfl, ST⟩ := hrel
    clear T0
    by_cases hlt : k < len
    · obtain ⟨o, ho⟩ : ∃ o, ops[k]? = some o := ⟨ops[k]'(by rw [HL.out]; exact hlt), by simp [HL.out, hlt]⟩
      obtain ⟨⟨hok, hfl⟩, ob, off, ha, hobl, hcs⟩ := ListG.at HOPS.out k o ho
      subst ha
      obtain ⟨kd, two, i1, n1, oa, oc, fr⟩ := o
      have hrg : wr.rangeAt ob (off + k * 5) (opC kd two i1 n1 oa fr.length oc).toList := fun j u hu => by
        have hj : j < 5 := by have := (List.getElem?_eq_some_iff.1 hu).1; simpa [opC] using this
        rw [ST.out.bel.cell (p := ⟨ob, off + k * 5 + j, none⟩) hobl, hcs j hj]
        exact hu
      have QS : Hid (∀ y X, (X = vp ∨ X = vq) → Below wr.heap.size wr y → Calls Try.prog 34 #[.agg X.cells, .agg (opC kd two i1 n1 oa fr.length oc)] y fun e w' => ∃ v', e = .returned (.tuple #[.agg v'.cells, .bool true]) ∧ Stepped w.heap.size y w' X v') := by
        intro y X hX hy
        have hp := ST.out
        have hsg : Seg .u8 y oa (toI fr) := hok.seg.old (hp.bel.trans (hy.mono hp.bel.size))
        have hfar : ∀ z, fr ≠ [] → oa = some z → z.block < w.heap.size := fun z hz hz2 => by
          rcases hok.seg.lt with h0 | ⟨b0, o0, e0, hb0⟩
          · rw [toI_len] at h0
            exact absurd (List.eq_nil_of_length_eq_zero h0) hz
          · have h9 : (⟨kd, two, i1, n1, oa, oc, fr⟩ : OpV).a = oa := rfl
            rw [h9, hz2] at e0
            have := Option.some.inj e0
            subst this
            exact hb0
        have hfl' : fr.length ≤ 1048576 := hfl
        rcases hX with rfl | rfl
        · refine (step_any w.heap.size y _ (hp.okp.below hy) (by have := hp.np; omega) (by have := hp.wp; omega) kd two i1 n1 oa oc fr hsg hok.h256 (by omega) (fun z hz hz2 hq => by have := hp.okp.old _ hq; have := hfar z hz hz2; omega)).mono ?_
          rintro e w' ⟨v', he, st, _⟩
          exact ⟨v', he, st⟩
        · refine (step_any w.heap.size y _ (hp.okq.below hy) (by have := hp.nq; omega) (by have := hp.wq; omega) kd two i1 n1 oa oc fr hsg hok.h256 (by omega) (fun z hz hz2 hq => by have := hp.okq.old _ hq; have := hfar z hz hz2; omega)).mono ?_
          rintro e w' ⟨v', he, st, _⟩
          exact ⟨v', he, st⟩
      obtain ⟨C, hC⟩ : ∃ C, C = opC kd two i1 n1 oa fr.length oc := ⟨_, rfl⟩
      rw [← hC] at hrg QS
      have hC5 : C.size = 5 := by rw [hC]; rfl
      have hC1 : C.all (·.oneCell') = true := by rw [hC]; simp [opC, Value.oneCell']
      have HC : Hid (C = opC kd two i1 n1 oa fr.length oc) := hC
      have HCT : Hid (C.toList.toArray = C) := by show _ = _; simp
      have hk0 : (0 : Int) ≤ (k : Int) := by omega
      have hk1 : (k : Int) < (len : Int) := by omega
      have hk2 : ((k : Int)).toNat = k := by omega
      have hzo : (wr.alloc (.cells #[.int .i64 0, .bool false, .int .i64 0, .int .i64 0, .slice none 0 0] 68)).heap[wr.heap.size]? = some (.cells #[.int .i64 0, .bool false, .int .i64 0, .int .i64 0, .slice none 0 0] 68 (0, 0)) := heap_alloc_new _ _
      have hszO : (Try.prog.info? 68).map (·.size) = some C.toList.length := by rw [Array.length_toList, hC5]; exact Try.sizeOp
      clear hok hcs hobl ho hC hfl
      go_wp2_with (first | (refine wpList_load_mid rfl 68 (.tmp 48) rfl ob (off + k * 5) rfl C.toList _ hrg Try.underlying68 rfl hszO ?_) | (refine wpList_store_op (.tmp 19) (.tmp 49) rfl rfl wr.heap.size C hC5 hC1 rfl (by rw [← HCT.out]; rfl) hzo rfl ?_))
      intro w6 hop6 k6
      have h0a : Below wr.heap.size wr (wr.alloc (.cells #[.int .i64 0, .bool false, .int .i64 0, .int .i64 0, .slice none 0 0] 68)) := (Below.refl _ _).alloc (Nat.le_refl _) _
      have b6 : Below wr.heap.size wr w6 := h0a.trans (k6.below (fun q e => by have e' : q = wr.heap.size := e; omega) h0a.size)
      obtain ⟨A, hA⟩ : ∃ A, A = wr.heap.size := ⟨_, rfl⟩
      rw [← hA] at hop6 ⊢
      have P6 : Hid (Pl w w6 vp vq XP XQ k) := ST.out.below b6
      have cA0 : w6.cell? ⟨A, 0, none⟩ = some (.int .i64 kd) := by rw [HC.out] at hop6; simp [World.cell?, hop6, opC]
      have cA1 : w6.cell? ⟨A, 1, none⟩ = some (.bool two) := by rw [HC.out] at hop6; simp [World.cell?, hop6, opC]
      have QP : Hid _ := QS.out w6 vp (.inl rfl) b6
      have QQ : Hid _ := QS.out w6 vq (.inr rfl) b6
      have hbp := P6.out.bp
      have hbq := P6.out.bq
      clear hzo hrg hszO h0a k6 b6 hA QS ST hC1
      by_cases h9 : kd = 9
      · have q9 : (kd == 9) = true := by simpa using h9
        clear h9
        by_cases hlo : kd < lo
        · skip
          clear QP QQ hbp hbq hop6 cA1
          go_wp2
          go_roundw
          case rel => exact ⟨k + 1, vp, vq, by omega, by go_num, rfl, P6.out.more⟩
          case measure => simp [intOf]; omega
        · by_cases hhi : hi < kd
          · skip
            clear QP QQ hbp hbq hop6 cA1
            go_wp2
            go_roundw
            case rel => exact ⟨k + 1, vp, vq, by omega, by go_num, rfl, P6.out.more⟩
            case measure => simp [intOf]; omega
          · skip
            cases two
            · skip
              go_upto_region 13 with fail
              go_upto_region 15 with fail
              go_wp2_with (first | (refine wpList_load_sd (.tmp 16) rfl XP vp rfl hbp rfl ?_) | (refine wpList_load_op (.tmp 19) rfl A C hC5 rfl hop6 rfl ?_))
              refine Calls.mono QP.out ?_
              rintro e w7 ⟨v', rfl, st⟩
              have hb7 : w7.heap[XP]? = some (.cells vp.cells 29 (0, 0)) := SdAt.ch hbp st.ch (fun g => (P6.out.fp XP (.inl g)).1 rfl)
              have HST : Hid _ := st
              clear QP QQ st hbp hbq hop6 cA0 cA1
              go_wp2_with (first | (refine wpList_store_sd (.tmp 16) (.tmp 82) rfl rfl XP vp.cells rfl v' rfl rfl hb7 rfl ?_))
              intro w8 hb8 k8
              have P8 : Hid (Pl w w8 v' vq XP XQ (k + 1)) := P6.out.step HST.out hb8 k8
              clear hb7 hb8 k8
              go_wp2
              go_roundw
              case rel => exact ⟨k + 1, v', vq, by omega, by go_num, rfl, P8⟩
              case measure => simp [intOf]; omega
            · skip
              go_upto_region 13 with fail
              go_upto_region 14 with fail
              go_wp2_with (first | (refine wpList_load_sd (.tmp 17) rfl XQ vq rfl hbq rfl ?_) | (refine wpList_load_op (.tmp 19) rfl A C hC5 rfl hop6 rfl ?_))
              refine Calls.mono QQ.out ?_
              rintro e w7 ⟨v', rfl, st⟩
              have hb7 : w7.heap[XQ]? = some (.cells vq.cells 29 (0, 0)) := SdAt.ch hbq st.ch (fun g => (P6.out.fq XQ (.inl g)).2 rfl)
              have HST : Hid _ := st
              clear QP QQ st hbp hbq hop6 cA0 cA1
              go_wp2_with (first | (refine wpList_store_sd (.tmp 17) (.tmp 76) rfl rfl XQ vq.cells rfl v' rfl rfl hb7 rfl ?_))
              intro w8 hb8 k8
              have P8 : Hid (Pl w w8 vp v' XP XQ (k + 1)) := (P6.out.swap.step HST.out hb8 k8).swap
              clear hb7 hb8 k8
              go_wp2
              go_roundw
              case rel => exact ⟨k + 1, vp, v', by omega, by go_num, rfl, P8⟩
              case measure => simp [intOf]; omega
      · have q9 : (kd == 9) = false := by simpa using h9
        clear h9
        by_cases h11 : kd = 11
        · have q11 : (kd == 11) = true := by simpa using h11
          clear h11
          by_cases hlo : kd < lo
          · skip
            clear QP QQ hbp hbq hop6 cA1
            go_wp2
            go_roundw
            case rel => exact ⟨k + 1, vp, vq, by omega, by go_num, rfl, P6.out.more⟩
            case measure => simp [intOf]; omega
          · by_cases hhi : hi < kd
            · skip
              clear QP QQ hbp hbq hop6 cA1
              go_wp2
              go_roundw
              case rel => exact ⟨k + 1, vp, vq, by omega, by go_num, rfl, P6.out.more⟩
              case measure => simp [intOf]; omega
            · skip
              cases two
              · skip
                go_upto_region 13 with fail
                go_upto_region 15 with fail
                go_wp2_with (first | (refine wpList_load_sd (.tmp 16) rfl XP vp rfl hbp rfl ?_) | (refine wpList_load_op (.tmp 19) rfl A C hC5 rfl hop6 rfl ?_))
                refine Calls.mono QP.out ?_
                rintro e w7 ⟨v', rfl, st⟩
                have hb7 : w7.heap[XP]? = some (.cells vp.cells 29 (0, 0)) := SdAt.ch hbp st.ch (fun g => (P6.out.fp XP (.inl g)).1 rfl)
                have HST : Hid _ := st
                clear QP QQ st hbp hbq hop6 cA0 cA1
                go_wp2_with (first | (refine wpList_store_sd (.tmp 16) (.tmp 82) rfl rfl XP vp.cells rfl v' rfl rfl hb7 rfl ?_))
                intro w8 hb8 k8
                have P8 : Hid (Pl w w8 v' vq XP XQ (k + 1)) := P6.out.step HST.out hb8 k8
                clear hb7 hb8 k8
                go_wp2
                go_roundw
                case rel => exact ⟨k + 1, v', vq, by omega, by go_num, rfl, P8⟩
                case measure => simp [intOf]; omega
              · skip
                go_upto_region 13 with fail
                go_upto_region 14 with fail
                go_wp2_with (first | (refine wpList_load_sd (.tmp 17) rfl XQ vq rfl hbq rfl ?_) | (refine wpList_load_op (.tmp 19) rfl A C hC5 rfl hop6 rfl ?_))
                refine Calls.mono QQ.out ?_
                rintro e w7 ⟨v', rfl, st⟩
                have hb7 : w7.heap[XQ]? = some (.cells vq.cells 29 (0, 0)) := SdAt.ch hbq st.ch (fun g => (P6.out.fq XQ (.inl g)).2 rfl)
                have HST : Hid _ := st
                clear QP QQ st hbp hbq hop6 cA0 cA1
                go_wp2_with (first | (refine wpList_store_sd (.tmp 17) (.tmp 76) rfl rfl XQ vq.cells rfl v' rfl rfl hb7 rfl ?_))
                intro w8 hb8 k8
                have P8 : Hid (Pl w w8 vp v' XP XQ (k + 1)) := (P6.out.swap.step HST.out hb8 k8).swap
                clear hb7 hb8 k8
                go_wp2
                go_roundw
                case rel => exact ⟨k + 1, vp, v', by omega, by go_num, rfl, P8⟩
                case measure => simp [intOf]; omega
        · have q11 : (kd == 11) = false := by simpa using h11
          clear h11
          cases two
          · skip
            go_upto_region 13 with fail
            go_upto_region 15 with fail
            go_wp2_with (first | (refine wpList_load_sd (.tmp 16) rfl XP vp rfl hbp rfl ?_) | (refine wpList_load_op (.tmp 19) rfl A C hC5 rfl hop6 rfl ?_))
            refine Calls.mono QP.out ?_
            rintro e w7 ⟨v', rfl, st⟩
            have hb7 : w7.heap[XP]? = some (.cells vp.cells 29 (0, 0)) := SdAt.ch hbp st.ch (fun g => (P6.out.fp XP (.inl g)).1 rfl)
            have HST : Hid _ := st
            clear QP QQ st hbp hbq hop6 cA0 cA1
            go_wp2_with (first | (refine wpList_store_sd (.tmp 16) (.tmp 82) rfl rfl XP vp.cells rfl v' rfl rfl hb7 rfl ?_))
            intro w8 hb8 k8
            have P8 : Hid (Pl w w8 v' vq XP XQ (k + 1)) := P6.out.step HST.out hb8 k8
            clear hb7 hb8 k8
            go_wp2
            go_roundw
            case rel => exact ⟨k + 1, v', vq, by omega, by go_num, rfl, P8⟩
            case measure => simp [intOf]; omega
          · skip
            go_upto_region 13 with fail
            go_upto_region 14 with fail
            go_wp2_with (first | (refine wpList_load_sd (.tmp 17) rfl XQ vq rfl hbq rfl ?_) | (refine wpList_load_op (.tmp 19) rfl A C hC5 rfl hop6 rfl ?_))
            refine Calls.mono QQ.out ?_
            rintro e w7 ⟨v', rfl, st⟩
            have hb7 : w7.heap[XQ]? = some (.cells vq.cells 29 (0, 0)) := SdAt.ch hbq st.ch (fun g => (P6.out.fq XQ (.inl g)).2 rfl)
            have HST : Hid _ := st
            clear QP QQ st hbp hbq hop6 cA0 cA1
            go_wp2_with (first | (refine wpList_store_sd (.tmp 17) (.tmp 76) rfl rfl XQ vq.cells rfl v' rfl rfl hb7 rfl ?_))
            intro w8 hb8 k8
            have P8 : Hid (Pl w w8 vp v' XP XQ (k + 1)) := (P6.out.swap.step HST.out hb8 k8).swap
            clear hb7 hb8 k8
            go_wp2
            go_roundw
            case rel => exact ⟨k + 1, vp, v', by omega, by go_num, rfl, P8⟩
            case measure => simp [intOf]; omega
    · have hltI : ¬ ((k : Int) < (len : Int)) := by omega
      have HB : Hid _ := ST.out.bel
      clear hlt ST
      go_wp2
      go_ret
      exact ⟨rfl, HB.out⟩
end Go.Proofs.Ythknkfggpdhdbaa
