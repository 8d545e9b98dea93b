/-
  Layer 15: a side (the program's cache, and what the reference says of it) in memory and under way.
-/
/-
  Layer 15: what step's walk leans on.
-/
/-
  Layer 15: weirlaw15.step.
-/
/-
  Layer 15: weirlaw15.made.
-/
/-
  Layer 15: what the first seven steps leave, in numbers.
-/
/-
  Layer 15: weirlaw15.started.
-/
/-
  Layer 15: weirlaw15.plays.
-/
import Derived.Test.YtialefdojeddjaaNrWt
import Derived.Test.YtialefdojeddjaaNrLn
import Derived.Test.YtialefdojeddjaaNrTk
import Derived.Test.YtialefdojeddjaaNgOp
import Derived.Deep.CutBlock
namespace Go.Proofs.Ytialefdojeddjaa
open Go.RowKit Go.Maps

def svC (p : Option Addr) (r : RC) : Array Value := #[.pointer p, .int .i64 r.c.mx, .int .i64 r.c.li, .int .i64 r.c.ev, .int .i64 r.c.tr, .int .i64 r.c.fr, .slice r.la r.n r.lc]
theorem Try.size_sdv : (Try.prog.info? 89).map (·.size) = some 7 := by kernel_rfl
def SdvAt (w : World) (O : Nat) (sp : Option Addr) (sr : RC) : Prop := w.heap[O]? = some (.cells (svC sp sr) 89 (0, 0))
section
variable {w : World} {O : Nat} {sp : Option Addr} {sr : RC} (k : SdvAt w O sp sr)
include k
theorem SdvAt.lt : O < w.heap.size := (Array.getElem?_eq_some_iff.1 k).1
theorem SdvAt.ch {S : Nat → Prop} {w' : World} (c : Ch S w w') (hS : ¬ S O) : SdvAt w' O sp sr := (c.block O k.lt hS).trans k
theorem SdvAt.below {w' : World} (c : Below w.heap.size w w') : SdvAt w' O sp sr := (c.block O k.lt).trans k
theorem SdvAt.cell (i : Nat) : w.cell? ⟨O, i, none⟩ = (svC sp sr)[i]? := by unfold SdvAt at k; simp [World.cell?, k]
theorem SdvAt.fz (j : Nat) : w.frozen? ⟨O, j, none⟩ = false := by unfold SdvAt at k; simp [World.frozen?, k]
theorem SdvAt.range (o n : Nat) : w.rangeAt O o (((svC sp sr).extract o (o + n)).toList) := World.rangeAt_of_block k o n
end
theorem sdv_new (w : World) (sp : Option Addr) (sr : RC) : SdvAt (w.alloc (.cells (svC sp sr) 89)) w.heap.size sp sr := heap_alloc_new _ _
theorem wpList_load_sdv {ops : Array Oper} {rest : List Oper} {o : Oper} {a : Act} {w : World} {Q : Exit → Act → World → Prop} (x : Operand) (ho : o.op = .load 89 x) (O : Nat) (sp : Option Addr) (sr : RC) (hx : a.eval x = .pointer (some ⟨O, 0, none⟩)) (hb : SdvAt w O sp sr)
    (hw : Region.wanted o (yielded ops a.tmps) = true) (hh : wpList Try.prog ops Q rest (a.put o.dst (.agg (svC sp sr))) w) : wpList Try.prog ops Q (o :: rest) a w := by
  refine wpList_step fun K hK => ?_
  rw [if_pos hw]
  exact wp_load_row 89 x ho O hx _ _ _ _ hb Try.underlying89 rfl Try.size_sdv (hK _ _ hh)
theorem wpList_store_sdv {ops : Array Oper} {rest : List Oper} {o : Oper} {a : Act} {w : World} {Q : Exit → Act → World → Prop} (x y : Operand) (ho : o.op = .store 89 x y) (hd : o.dst = none) (O : Nat) (sp : Option Addr) (sr : RC) (sp' : Option Addr) (sr' : RC) (hx : a.eval x = .pointer (some ⟨O, 0, none⟩)) (hy : a.eval y = .agg (svC sp' sr')) (hb : SdvAt w O sp sr)
    (hw : Region.wanted o (yielded ops a.tmps) = true) (hh : ∀ w', SdvAt w' O sp' sr' → Ch (fun q => q = O) w w' → wpList Try.prog ops Q rest a w') : wpList Try.prog ops Q (o :: rest) a w := by
  refine wpList_step fun K hK => ?_
  rw [if_pos hw]
  refine wp_store_row 89 x y ho O (svC sp' sr') hx hy _ (svC sp sr) hb Try.size_sdv rfl (by simp [svC, Value.oneCell']) (hK _ _ ?_)
  rw [hd]
  refine hh _ (setRow_heap w O _ _ _ _ hb) ⟨rfl, rfl, rfl, ?_, ?_⟩
  · simp [World.setRow]
  · intro k hk hne
    simp only [World.setRow]
    rw [Array.getElem?_modify, if_neg (fun e => hne e.symm)]
theorem wpList_alloc_sdv {ops : Array Oper} {rest : List Oper} {o : Oper} {a : Act} {w : World} {Q : Exit → Act → World → Prop} (ho : o.op = .alloc 89) (hw : Region.wanted o (yielded ops a.tmps) = true)
    (h : wpList Try.prog ops Q rest (a.put o.dst (.pointer (some ⟨w.heap.size, 0, none⟩))) (w.alloc (.cells (svC none rcz) 89))) : wpList Try.prog ops Q (o :: rest) a w := by
  refine wpList_step fun K hK => ?_
  rw [if_pos hw]
  have hrun : (execOp a.eval o).run Try.prog w = .ok (.value (.pointer (some ⟨w.heap.size, 0, none⟩))) (w.alloc (.cells (svC none rcz) 89)) := by
    obtain ⟨dst, op, type, pos, after, guard⟩ := o
    simp only at ho
    subst ho
    simp only [execOp]
    go_simp
    rfl
  unfold Oper.wp
  rw [hrun]
  exact hK _ _ h
theorem yields_sdv {ops : Array Oper} {o : Oper} {a : Act} {S : World → Prop} (x : Operand) (ho : o.op = .load 89 x) (O off : Nat) (sp : Option Addr) (sr : RC) (hx : a.eval x = .pointer (some ⟨O, off, none⟩)) (hw : Region.wanted o (yielded ops a.tmps) = true) (hS : ∀ w, S w → w.rangeAt O off (svC sp sr).toList) : YieldsIf Try.prog ops S o (.agg (svC sp sr)) a :=
  yieldsIf_load_mid hw 89 x ho O off hx (svC sp sr).toList _ hS Try.underlying89 rfl Try.size_sdv
theorem wpList_mid_sdv {ops : Array Oper} {rest : List Oper} {o : Oper} {a : Act} {w : World} {Q : Exit → Act → World → Prop} (x : Operand) (ho : o.op = .load 89 x) (O off : Nat) (sp : Option Addr) (sr : RC) (hx : a.eval x = .pointer (some ⟨O, off, none⟩)) (hb : w.rangeAt O off (svC sp sr).toList)
    (hw : Region.wanted o (yielded ops a.tmps) = true) (h : wpList Try.prog ops Q rest (a.put o.dst (.agg (svC sp sr))) w) : wpList Try.prog ops Q (o :: rest) a w := by
  refine wpList_step fun K hK => ?_
  rw [if_pos hw]
  exact wp_load_mid 89 x ho O off hx (svC sp sr).toList _ hb Try.underlying89 rfl Try.size_sdv (hK _ _ h)
theorem results_sdv {fn : Func} {p : Tmp} (h : fn.results = #[.cell p 89]) (tmps : Array Value) (w : World) (O : Nat) (sp : Option Addr) (sr : RC) (hp : tmps.getD p undef = .pointer (some ⟨O, 0, none⟩)) (hb : SdvAt w O sp sr) :
    (results fn tmps).run Try.prog w = .ok (.agg (svC sp sr)) w :=
  results_cell_row h tmps w O _ (svC sp sr) _ _ hp hb Try.underlying89 rfl Try.size_sdv

theorem SdvAt.rc {w : World} {O : Nat} {p : Option Addr} {r : RC} (h : SdvAt w O p r) : w.rangeAt O 1 (rcC r).toList := by
  have e := SdvAt.range h 1 6
  exact e
theorem SdvAt.all {w : World} {O : Nat} {p : Option Addr} {r : RC} (h : SdvAt w O p r) : w.rangeAt O 0 (svC p r).toList := by
  have e := SdvAt.range h 0 (svC p r).size
  rwa [Nat.zero_add, Array.extract_size] at e
theorem SdvAt.not {A : World} {t M O : Nat} {c : CF} {E : List EV} {p : Option Addr} {r : RC} (h : SdvAt A O p r) (hc : CA A t M c E) : ¬ CB t M E O := cb_apart hc h (by decide) (by decide) (by decide)
theorem wpList_store_sdr {ops : Array Oper} {rest : List Oper} {o : Oper} {a : Act} {w : World} {Q : Exit → Act → World → Prop} (x y : Operand) (ho : o.op = .store 87 x y) (hd : o.dst = none) (O : Nat) (p : Option Addr) (r r' : RC) (hx : a.eval x = .pointer (some ⟨O, 1, none⟩)) (hy : a.eval y = .agg (rcC r')) (hb : SdvAt w O p r)
    (hw : Region.wanted o (yielded ops a.tmps) = true) (hh : ∀ w', SdvAt w' O p r' → Ch (fun q => q = O) w w' → wpList Try.prog ops Q rest a w') : wpList Try.prog ops Q (o :: rest) a w := by
  refine wpList_step fun K hK => ?_
  rw [if_pos hw]
  have ht : w.there O 1 6 := fun j hj => by
    refine ⟨?_, hb.fz (1 + j)⟩
    rw [hb.cell (1 + j), Array.getElem?_eq_getElem (by show 1 + j < 7; omega)]
    rfl
  refine wp_store_mid 87 x y ho O 1 (rcC r') hx hy ht Try.size_rch (by simp [rcC, Value.oneCell']) (hK _ _ ?_)
  rw [hd]
  exact hh _ (heap_setCells O 89 (rcC r').toList 1 w (svC p r) hb) (ch_setCells w O _ _)
theorem yields_eql_mac {ops : Array Oper} {o : Oper} {a : Act} {S : World → Prop} (X Y : Operand) (ho : o.op = .binOp .eql 33 X Y 33) (x : Nat → Nat) (hx : a.eval X = .agg (macC x)) (hy : a.eval Y = .agg (macC x)) (hw : Region.wanted o (yielded ops a.tmps) = true) : YieldsIf Try.prog ops S o (.bool true) a := by
  refine .inl ⟨hw, fun w _ => ?_⟩
  obtain ⟨dst, op, type, pos, after, guard⟩ := o
  simp only at ho
  subst ho
  simp only [execOp, Sem.run_bind, Sem.run_pure, hx, hy, run_eqGuard_agg w .eql 33 _ _ _ _ Try.macGuard, Result.andThen_ok, run_eql_struct, eq6top, same6_self]
theorem results_sdv_tmp {fn : Func} {p u : Tmp} (h : fn.results = #[.cell p 89, .tmp u]) (tmps : Array Value) (w : World) (O : Nat) (q : Option Addr) (r : RC) (hp : tmps.getD p undef = .pointer (some ⟨O, 0, none⟩)) (hb : SdvAt w O q r) :
    (results fn tmps).run Try.prog w = .ok (.tuple #[.agg (svC q r), tmps.getD u undef]) w := by
  have hp' : tmps[p]?.getD undef = .pointer (some ⟨O, 0, none⟩) := by simpa using hp
  simp [results, h, hp', asAddr, run_loadVar_row w O _ 89 (svC q r) _ _ hb Try.underlying89 rfl Try.size_sdv]
/-- a side under way: the program's cache and the reference's, alike -/
structure SS (W : World) (t M : Nat) (c : CF) (E : List EV) (rc : RC) (R : List RE) (w : World) : Prop where
  l : LSt W t M c E w
  e2 : E2 E
  r : RSt rc R w
  cc : rc.c = c
  rep : Rep E (NS R)
  ap : ∀ q, RB rc R q → ¬ CB t M E q
  ol : ∀ q, RB rc R q → W.heap.size ≤ q
/-- the program's has gone on, the reference's not yet -/
structure SM (W : World) (t M : Nat) (c : CF) (E E' : List EV) (rc : RC) (R : List RE) (w : World) : Prop where
  l : LSt W t M c E' w
  e2 : E2 E'
  r : RSt rc R w
  cc : rc.c = c
  rep : Rep E (NS R)
  ap : ∀ q, RB rc R q → ¬ CB t M E' q
  ol : ∀ q, RB rc R q → W.heap.size ≤ q
  ok : EOk c E
  e20 : E2 E
  dj : Dj E
  wf : ∀ e ∈ E, e.n.k.Wf
/-- a side's blocks -/
def SB (t M : Nat) (E : List EV) (rc : RC) (R : List RE) (q : Nat) : Prop := CB t M E q ∨ RB rc R q
section
variable {W : World} {t M : Nat} {c : CF} {E E' : List EV} {rc : RC} {R : List RE} {w w' : World}
theorem SS.ch {S : Nat → Prop} (h : SS W t M c E rc R w) (k : Ch S w w') (hS : ∀ q, SB t M E rc R q → ¬ S q) (hW : ∀ q, S q → W.heap.size ≤ q) : SS W t M c E rc R w' :=
  ⟨h.l.ch k (fun q hq => hS q (.inl hq)) hW, h.e2, h.r.ch k (fun q hq => hS q (.inr hq)), h.cc, h.rep, h.ap, h.ol⟩
theorem SS.below (h : SS W t M c E rc R w) (b : Below w.heap.size w w') : SS W t M c E rc R w' := ⟨h.l.below b, h.e2, h.r.below b, h.cc, h.rep, h.ap, h.ol⟩
theorem SS.lt (h : SS W t M c E rc R w) : ∀ q, SB t M E rc R q → q < w.heap.size := fun q hq => hq.elim (h.l.ca.tlt q) (h.r.lt q)
theorem SS.ge (h : SS W t M c E rc R w) : ∀ q, SB t M E rc R q → W.heap.size ≤ q := fun q hq => hq.elim (h.l.out q) (h.ol q)
theorem SM.below (h : SM W t M c E E' rc R w) (b : Below w.heap.size w w') : SM W t M c E E' rc R w' := ⟨h.l.below b, h.e2, h.r.below b, h.cc, h.rep, h.ap, h.ol, h.ok, h.e20, h.dj, h.wf⟩
theorem SM.ch {S : Nat → Prop} (h : SM W t M c E E' rc R w) (k : Ch S w w') (hS : ∀ q, SB t M E' rc R q → ¬ S q) (hW : ∀ q, S q → W.heap.size ≤ q) : SM W t M c E E' rc R w' :=
  ⟨h.l.ch k (fun q hq => hS q (.inl hq)) hW, h.e2, h.r.ch k (fun q hq => hS q (.inr hq)), h.cc, h.rep, h.ap, h.ol, h.ok, h.e20, h.dj, h.wf⟩
theorem SM.lt (h : SM W t M c E E' rc R w) : ∀ q, SB t M E' rc R q → q < w.heap.size := fun q hq => hq.elim (h.l.ca.tlt q) (h.r.lt q)
/-- the program's cache goes on -/
theorem SS.mid (h : SS W t M c E rc R w) (l : LSt W t M c E' w') (e2 : E2 E') (k : Ch (CB t M E) w w') (hq : ∀ q, CB t M E' q → CB t M E q ∨ w.heap.size ≤ q) : SM W t M c E E' rc R w' :=
  ⟨l, e2, h.r.ch k (fun q hq => h.ap q hq), h.cc, h.rep, fun q hr hc => by
    rcases hq q hc with g | g
    · exact h.ap q hr g
    · have := h.r.lt q hr; omega, h.ol, h.l.ok, h.e2, h.l.ca.dj, h.l.ca.wf⟩
theorem SM.mem (h : SM W t M c E E' rc R w) {e : RE} (he : e ∈ R) : ∃ a ∈ E, a.n = e.n := h.rep.mem.1 (List.mem_map.2 ⟨e, he, rfl⟩)
theorem SS.mem (h : SS W t M c E rc R w) {e : RE} (he : e ∈ R) : ∃ a ∈ E, a.n = e.n := h.rep.mem.1 (List.mem_map.2 ⟨e, he, rfl⟩)
theorem SM.n (h : SM W t M c E E' rc R w) : rc.n ≤ 1024 := by
  have h1 := h.rep.len
  have h2 := h.ok.len h.l.cf
  rw [← h.r.len]
  simp only [NS, List.length_map] at h1
  omega
theorem SS.n (h : SS W t M c E rc R w) : rc.n ≤ 1024 := by
  have h1 := h.rep.len
  have h2 := h.l.ok.len h.l.cf
  rw [← h.r.len]
  simp only [NS, List.length_map] at h1
  omega
/-- the reference's goes on too -/
theorem SM.done {rc' : RC} {R' : List RE} (h : SM W t M c E E' rc R w) (r : RSt rc' R' w') (hc : rc'.c = rc.c) (rep : Rep E' (NS R')) (b : Below w.heap.size w w') (hq : ∀ q, RB rc' R' q → RB rc R q ∨ w.heap.size ≤ q) : SS W t M c E' rc' R' w' :=
  ⟨h.l.below b, h.e2, r, hc.trans h.cc, rep, fun q hr hcb => by
    rcases hq q hr with g | g
    · exact h.ap q g hcb
    · have := h.l.ca.tlt q hcb; omega, fun q hr => by
    rcases hq q hr with g | g
    · exact h.ol q g
    · have := h.l.bel.size; omega⟩
theorem SS.want (h : SS W t M c E rc R w) (k : KV) (hk : k.Wf) (item : Int) :
    Calls Try.prog 15 #[.pointer (some ⟨t, 0, none⟩), .int .i64 k.pt, .agg (ipCells k.V k.x), .int .i64 item] w fun r w' => ∃ m oc er E', r = .returned (.tuple #[.agg (macC m), .int .i64 oc, .int .i64 er]) ∧ WantR c E k item E' m oc er ∧ SM W t M c E E' rc R w' ∧ Ch (CB t M E) w w' ∧ ∀ q, CB t M E' q → CB t M E q ∨ w.heap.size ≤ q := by
  refine (h.l.want k hk item).mono ?_
  rintro r w' ⟨m, oc, er, E', rfl, hR, hl, hch, hq, _⟩
  exact ⟨m, oc, er, E', rfl, hR, h.mid hl (hR.n2 h.e2) hch hq, hch, hq⟩
theorem SM.want (h : SM W t M c E E' rc R w) {k : KV} (hk : k.Wf) {item : Int} {m : Nat → Nat} {oc er : Int} (hW : WantR c E k item E' m oc er) :
    Calls Try.prog 73 #[.agg (rcC rc), .int .i64 k.pt, .agg (ipCells k.V k.x), .int .i64 item] w fun r w' => ∃ rc' R', r = .returned (.tuple #[.agg (rcC rc'), .agg (macC m), .int .i64 oc, .int .i64 er]) ∧ RWantR c R k item R' m oc er ∧ SS W t M c E' rc' R' w' ∧ Below w.heap.size w w' ∧ ∀ q, RB rc' R' q → RB rc R q ∨ w.heap.size ≤ q := by
  refine (rwant_any rc R k item w h.r h.n hk (fun e he => by obtain ⟨a, ha, h1⟩ := h.mem he; rw [← h1]; exact h.wf a ha) (fun e he => by obtain ⟨a, ha, h1⟩ := h.mem he; rw [← h1]; exact h.ok.lns h.l.cf a ha)).mono ?_
  rintro r w' ⟨rc', R', m', oc', er', rfl, hR, hc, hrs, b, hq⟩
  rw [h.cc] at hR
  obtain ⟨rfl, rfl, rfl, hrep⟩ := want_same h.ok h.dj h.rep h.wf hk hW hR
  exact ⟨rc', R', rfl, hR, h.done hrs hc hrep b hq, b, hq⟩
theorem SS.learn (h : SS W t M c E rc R w) (k : KV) (hk : k.Wf) (mc : Nat → Nat) (hm : ∀ i, i < 6 → mc i < 256) (how : Int) :
    Calls Try.prog 16 #[.pointer (some ⟨t, 0, none⟩), .int .i64 k.pt, .agg (ipCells k.V k.x), .agg (macC mc), .int .i64 how] w fun r w' => ∃ v l er E', r = .returned (.tuple #[v, .int .i64 er]) ∧ LearnR c E k mc how E' v l er ∧ LnAt w' v l ∧ SM W t M c E E' rc R w' ∧ Ch (CB t M E) w w' ∧ ∀ q, CB t M E' q → CB t M E q ∨ w.heap.size ≤ q := by
  refine (h.l.learn k hk mc hm how).mono ?_
  rintro r w' ⟨v, l, er, E', rfl, hR, hl, hch, hln, hq, _⟩
  exact ⟨v, l, er, E', rfl, hR, hln, h.mid hl (hR.n2 h.e2) hch hq, hch, hq⟩
theorem SM.learn (h : SM W t M c E E' rc R w) {k : KV} (hk : k.Wf) {mc : Nat → Nat} (hm : ∀ i, i < 6 → mc i < 256) {how : Int} {v : Value} {l : List Int} {er : Int} (hW : LearnR c E k mc how E' v l er) :
    Calls Try.prog 74 #[.agg (rcC rc), .int .i64 k.pt, .agg (ipCells k.V k.x), .agg (macC mc), .int .i64 how] w fun r w' => ∃ rc' R' la lc, r = .returned (.tuple #[.agg (rcC rc'), .slice la l.length lc, .int .i64 er]) ∧ RLearnR c R k mc how R' l er ∧ SS W t M c E' rc' R' w' ∧ Seg .i64 w' la l ∧ (∀ q off, la = some ⟨q, off, none⟩ → RB rc R q) ∧ Below w.heap.size w w' ∧ ∀ q, RB rc' R' q → RB rc R q ∨ w.heap.size ≤ q := by
  refine (rlearn_any rc R k mc how w h.r h.n hk hm (fun e he => by obtain ⟨a, ha, h1⟩ := h.mem he; rw [← h1]; exact h.wf a ha)).mono ?_
  rintro r w' ⟨rc', R', la, lc, l', er', rfl, hR, hc, hrs, hsg, hla, b, hq⟩
  rw [h.cc] at hR
  obtain ⟨rfl, rfl, hrep⟩ := learn_same h.ok h.e20 h.dj h.rep h.wf hk hW hR
  exact ⟨rc', R', la, lc, rfl, hR, h.done hrs hc hrep b hq, hsg, hla, b, hq⟩
theorem SS.tick (h : SS W t M c E rc R w) :
    Calls Try.prog 17 #[.pointer (some ⟨t, 0, none⟩)] w fun r w' => ∃ av lv, r = .returned (.tuple #[av, lv]) ∧ AL w' w.heap.size av (R.filterMap (rak c)) ∧ IL w' w.heap.size lv (R.flatMap (rlo c)) ∧ SM W t M c E (E.filterMap (tickE c)) rc R w' ∧ Ch (CB t M E) w w' ∧ ∀ q, CB t M (E.filterMap (tickE c)) q → CB t M E q ∨ w.heap.size ≤ q := by
  refine h.l.tick.mono ?_
  rintro r w' ⟨av, lv, Kd, rfl, hp, hs, ha, hlo, hl, hch⟩
  have h2 : ∀ e ∈ R, N2 e.n := fun e he => by obtain ⟨a, ha, h1⟩ := h.mem he; rw [← h1]; exact h.e2 a ha
  obtain ⟨_, e2, e3⟩ := rtk_all (c := c) h2
  rw [asks_same h.l.ca.dj h.rep hp hs, ← e2] at ha
  rw [lost_same h.l.ca.dj h.rep hp hs, ← e3] at hlo
  exact ⟨av, lv, rfl, ha, hlo, h.mid hl (tick_n2 h.e2) hch (fun q hq => .inl (tick_cb q hq)), hch, fun q hq => .inl (tick_cb q hq)⟩
theorem SM.tick (h : SM W t M c E (E.filterMap (tickE c)) rc R w) :
    Calls Try.prog 75 #[.agg (rcC rc)] w fun r w' => ∃ rc' va vo, r = .returned (.tuple #[.agg (rcC rc'), va, vo]) ∧ AL w' w.heap.size va (R.filterMap (rak c)) ∧ IL w' w.heap.size vo (R.flatMap (rlo c)) ∧ SS W t M c (E.filterMap (tickE c)) rc' (R.filterMap (rtk c)) w' ∧ Below w.heap.size w w' ∧ ∀ q, RB rc' (R.filterMap (rtk c)) q → RB rc R q ∨ w.heap.size ≤ q := by
  refine (rtick_any rc R w h.r h.n (fun e he => by obtain ⟨a, ha, h1⟩ := h.mem he; rw [← h1]; exact h.ok.lns h.l.cf a ha) (fun e he => by obtain ⟨a, ha, h1⟩ := h.mem he; rw [← h1]; exact (h.ok.2 a ha).age h.l.cf) (fun e he => by obtain ⟨a, ha, h1⟩ := h.mem he; rw [← h1]; exact (h.ok.2 a ha).tr) (by rw [h.cc]; have := h.l.cf.tr; omega)).mono ?_
  rintro r w' ⟨rc', va, vo, rfl, hc, hrs, ha, ho, b, hq⟩
  have h2 : ∀ e ∈ R, N2 e.n := fun e he => by obtain ⟨a, ha, h1⟩ := h.mem he; rw [← h1]; exact h.e20 a ha
  obtain ⟨e1, _, _⟩ := rtk_all (c := c) h2
  rw [h.cc] at hrs ha ho hq
  exact ⟨rc', va, vo, rfl, ha, ho, h.done hrs hc (by rw [e1]; exact h.rep.tick c) b hq, b, hq⟩
theorem SS.get (h : SS W t M c E rc R w) (k : KV) (hk : k.Wf) : Calls Try.prog 22 #[.pointer (some ⟨t, 0, none⟩), .int .i64 k.pt, .agg (ipCells k.V k.x)] w fun r w' => r = .returned (.tuple #[.agg (nbC (gtN E k)), .bool (fE E k).isSome]) ∧ SS W t M c E rc R w' ∧ Below w.heap.size w w' := by
  refine (h.l.get k hk).mono ?_
  rintro r w' ⟨rfl, _, b⟩
  exact ⟨rfl, h.below b, b⟩
theorem SS.rget (h : SS W t M c E rc R w) (k : KV) : Calls Try.prog 76 #[.agg (rcC rc), .int .i64 k.pt, .agg (ipCells k.V k.x)] w fun r w' => r = .returned (.tuple #[.agg (nbC (gtN E k)), .bool (fE E k).isSome]) ∧ SS W t M c E rc R w' ∧ Below w.heap.size w w' := by
  refine (rget_any rc R k.pt k.V k.x w h.r.er h.r.len (by have := h.n; omega)).mono ?_
  rintro r w' ⟨b, ⟨hn, rfl⟩ | ⟨i, e, hi, hk, rfl⟩⟩
  · have h1 : fE E k = none := rep_no h.rep hn
    refine ⟨?_, h.below b, b⟩
    unfold gtN
    rw [h1]
    rfl
  · obtain ⟨a, ha, h1⟩ := rep_at h.l.ca.dj h.rep hi hk
    refine ⟨?_, h.below b, b⟩
    unfold gtN
    rw [ha]
    have h2 := nb_key hk e.n.m e.n.st e.n.ag e.n.tr (e.n.ln.length : Int)
    show Ending.returned (Value.tuple #[.agg (nbC e.n.nb), .bool true]) = Ending.returned (Value.tuple #[.agg (nbC ⟨k, a.n.m, a.n.st, a.n.ag, a.n.tr, (a.n.ln.length : Int)⟩), .bool true])
    rw [h1, ← h2]
    rfl
theorem SS.all (h : SS W t M c E rc R w) : Calls Try.prog 18 #[.pointer (some ⟨t, 0, none⟩)] w fun r w' => ∃ v, r = .returned v ∧ NL w' w.heap.size v (R.map (fun r => r.n.nb)) ∧ SS W t M c E rc R w' ∧ Below w.heap.size w w' := by
  refine h.l.all.mono ?_
  rintro r w' ⟨v, S, rfl, hS, hN, _, b⟩
  have e1 : S.map (fun e => e.n) = NS R := hS.rep.same h.rep
  have e2 : S.map (fun e => e.n.nb) = R.map (fun r => r.n.nb) := by
    have := congrArg (List.map EN.nb) e1
    rw [NS, List.map_map, List.map_map] at this
    exact this
  rw [e2] at hN
  exact ⟨v, rfl, hN, h.below b, b⟩
theorem SS.rall (h : SS W t M c E rc R w) : Calls Try.prog 77 #[.agg (rcC rc)] w fun r w' => ∃ v, r = .returned v ∧ NL w' w.heap.size v (R.map (fun r => r.n.nb)) ∧ SS W t M c E rc R w' ∧ Below w.heap.size w w' := by
  refine (rall_any rc R w h.r.er h.r.len (by have := h.n; omega)).mono ?_
  rintro r w' ⟨v, rfl, hN, b⟩
  exact ⟨v, rfl, hN, h.below b, b⟩
theorem SS.waiting (h : SS W t M c E rc R w) : Calls Try.prog 20 #[.pointer (some ⟨t, 0, none⟩)] w fun r w' => r = .returned (.int .i64 (rwN R : Nat)) ∧ SS W t M c E rc R w' ∧ Below w.heap.size w w' := by
  refine h.l.waiting.mono ?_
  rintro r w' ⟨rfl, _, b⟩
  refine ⟨?_, h.below b, b⟩
  have h1 := h.rep.wait
  have h2 : rwN R = waitN E := by
    rw [← h1]
    unfold rwN NS
    rw [List.map_map]
    rfl
  rw [h2]
theorem SS.rwaiting (h : SS W t M c E rc R w) : Calls Try.prog 78 #[.agg (rcC rc)] w fun r w' => r = .returned (.int .i64 (rwN R : Nat)) ∧ SS W t M c E rc R w' ∧ Below w.heap.size w w' := by
  refine (rwaiting_any rc R w h.r.er h.r.len (by have := h.n; omega) (fun e he => by obtain ⟨a, ha, h1⟩ := h.mem he; rw [← h1]; exact h.l.ok.lns h.l.cf a ha)).mono ?_
  rintro r w' ⟨rfl, b⟩
  exact ⟨rfl, h.below b, b⟩
end
end Go.Proofs.Ytialefdojeddjaa
namespace Go.Proofs.Ytialefdojeddjaa
open Go.RowKit Go.Maps

/-- step under way: its boxes -/
structure ST (w : World) (B t M : Nat) (E : List EV) (o : OV) (rc : RC) (A : World) : Prop where
  s : SdvAt A B (some ⟨t, 0, none⟩) rc
  o : OpvAt A (B + 1) o
  r : SdvAt A (B + 2) none rcz
  ch : Ch (CB t M E) w A
  sz : B + 3 ≤ A.heap.size
theorem ST.chq {S : Nat → Prop} {w A A' : World} {B t M : Nat} {E : List EV} {o : OV} {rc : RC} (h : ST w B t M E o rc A) (hB : w.heap.size = B ∧ ∀ q, CB t M E q → q < B) (k : Ch S A A') (hS : ∀ q, S q → CB t M E q ∨ B + 3 ≤ q) : ST w B t M E o rc A' := by
  have hn : ∀ q, B ≤ q → q < B + 3 → ¬ S q := fun q h1 h2 s => by
    rcases hS q s with g | g
    · have := hB.2 q g; omega
    · omega
  exact ⟨h.s.ch k (hn B (Nat.le_refl _) (by omega)), h.o.ch k (hn (B + 1) (by omega) (by omega)), h.r.ch k (hn (B + 2) (by omega) (by omega)), h.ch.trans k (fun q hq s => by
    rcases hS q s with g | g
    · exact g
    · have := hB.1; omega), Nat.le_trans h.sz k.size⟩
theorem ST.below {w A A' : World} {B t M : Nat} {E : List EV} {o : OV} {rc : RC} (h : ST w B t M E o rc A) (_ : w.heap.size = B ∧ ∀ q, CB t M E q → q < B) (b : Below A.heap.size A A') : ST w B t M E o rc A' := ⟨h.s.below b, h.o.below b, h.r.below b, ch_then h.ch b, Nat.le_trans h.sz b.size⟩
theorem sb_ne {t M : Nat} {E : List EV} {rc : RC} {R : List RE} {B Z q : Nat} (hlt : ∀ q, SB t M E rc R q → q < B) (h : SB t M E rc R q ∨ B + 3 ≤ q) (h1 : B ≤ Z) (h2 : Z < B + 3) (e : q = Z) : False := by
  rcases h with g | g
  · have := hlt q g; omega
  · omega
/-- a row of numbers stays where a side's box is written -/
theorem seg_box {A A' : World} {B : Nat} {a : Option Addr} {l : List Int} (h : Seg .i64 A a l) (k : Ch (fun q => q = B) A A') (hn : ∀ x, l ≠ [] → a = some x → x.block ≠ B) : Seg .i64 A' a l := k.seg h (fun x hz hx e => hn x hz hx e)
theorem ln_len {A : World} {v : Value} {l : List Int} (h : LnAt A v l) : l.length ≤ 9223372036854775807 := by
  rcases h.2 with ⟨_, h0⟩ | ⟨g, cap, cur, e, hb, hg, hnc, hcm, _⟩
  · omega
  · unfold maxLen at hcm; omega
theorem il_ln {A : World} {b : Nat} {v : Value} {l : List Int} (h : IL A b v l) : LnAt A v l := ⟨h.1, h.2.imp id (fun ⟨g, cap, cur, e9, _, r9⟩ => ⟨g, cap, cur, e9, Nat.zero_le _, r9⟩)⟩
theorem NbrAt.all {w : World} {O : Nat} {n : NB} (h : NbrAt w O n) : w.rangeAt O 0 (nbC n).toList := by
  have e := NbrAt.range h 0 (nbC n).size
  rwa [Nat.zero_add, Array.extract_size] at e
theorem yields_cptr {ops : Array Oper} {o : Oper} {a : Act} {S : World → Prop} (x : Operand) (ho : o.op = .load 25 x) (p : Addr) (u : Value) (hx : a.eval x = .pointer (some p)) (hw : Region.wanted o (yielded ops a.tmps) = true) (hS : ∀ w, S w → w.cell? p = some u) : YieldsIf Try.prog ops S o u a := by
  refine .inl ⟨hw, fun w hb => ?_⟩
  have hc := hS w hb
  have hu := Try.underlying25
  obtain ⟨dst, op, type, pos, after, guard⟩ := o
  simp only at ho
  subst ho
  simp only [execOp, Sem.run_bind, Sem.run_pure]
  rw [hx]
  simp [Instr.loadAt, go_sem, hc]
/-- what a step does to the reference's entries -/
def StepR (c : CF) (o : OV) (R R' : List RE) : Prop := (o.kd = 1 → ∃ m oc er, RWantR c R o.k o.n R' m oc er) ∧ (o.kd = 2 → ∃ l er, RLearnR c R o.k o.m o.n R' l er) ∧ (o.kd = 3 → R' = R.filterMap (rtk c)) ∧ (o.kd ≠ 1 → o.kd ≠ 2 → o.kd ≠ 3 → R' = R)
def StepP (W : World) (t M : Nat) (c : CF) (E : List EV) (rc : RC) (R : List RE) (o : OV) (w : World) (r : Ending) (w' : World) : Prop :=
  ∃ E' rc' R', r = .returned (.tuple #[.agg (svC (some ⟨t, 0, none⟩) rc'), .bool true]) ∧ StepR c o R R' ∧ SS W t M c E' rc' R' w' ∧ Ch (CB t M E) w w' ∧ ∀ q, SB t M E' rc' R' q → SB t M E rc R q ∨ w.heap.size ≤ q
end Go.Proofs.Ytialefdojeddjaa
namespace Go.Proofs.Ytialefdojeddjaa
open Go.RowKit Go.Maps

set_option maxHeartbeats 25600000 in
set_option maxRecDepth 100000 in
theorem step_any (W : World) (t M : Nat) (c : CF) (E : List EV) (rc : RC) (R : List RE) (o : OV) (hok : OpOk o) (w : World) (h : SS W t M c E rc R w) :
    Calls Try.prog 61 #[.agg (svC (some ⟨t, 0, none⟩) rc), .agg (opC o)] w fun r w' => StepP W t M c E rc R o w r w' := by
  have hi := sdv_new w (some ⟨t, 0, none⟩) rc
  obtain ⟨Y1, hY1⟩ : ∃ Y, Y = w.alloc (.cells (svC (some ⟨t, 0, none⟩) rc) 89) := ⟨_, rfl⟩
  rw [← hY1] at hi
  obtain ⟨B, hB⟩ : ∃ B, B = w.heap.size := ⟨_, rfl⟩
  rw [← hB] at hi
  have s1 : Y1.heap.size = B + 1 := by rw [hY1, World.size_alloc, hB]
  have b1 : Below w.heap.size w Y1 := by rw [hY1]; exact (Below.refl _ _).alloc (Nat.le_refl _) _
  have ho := opv_new Y1 o
  obtain ⟨Y2, hY2⟩ : ∃ Y, Y = Y1.alloc (.cells (opC o) 35) := ⟨_, rfl⟩
  rw [← hY2, s1] at ho
  have s2 : Y2.heap.size = B + 2 := by rw [hY2, World.size_alloc, s1]
  have b2 : Below Y1.heap.size Y1 Y2 := by rw [hY2]; exact (Below.refl _ _).alloc (Nat.le_refl _) _
  obtain ⟨Y, hY⟩ : ∃ Y, Y = Y2.alloc (.cells (svC none rcz) 89) := ⟨_, rfl⟩
  have b3 : Below Y2.heap.size Y2 Y := by rw [hY]; exact (Below.refl _ _).alloc (Nat.le_refl _) _
  have s3 : Y.heap.size = B + 3 := by rw [hY, World.size_alloc, s2]
  have hr : SdvAt Y (B + 2) none rcz := by rw [hY, ← s2]; exact sdv_new Y2 none rcz
  have bY : Below w.heap.size w Y := bthen (bthen b1 b2) b3
  have HSY : Hid (SS W t M c E rc R Y) := h.below bY
  have HY : Hid (ST w B t M E o rc Y) := ⟨(hi.below b2).below b3, ho.below b3, hr, Ch.ofBelow bY, by omega⟩
  obtain ⟨CI, hCI⟩ : ∃ C, C = svC (some ⟨t, 0, none⟩) rc := ⟨_, rfl⟩
  obtain ⟨CM, hCM⟩ : ∃ C, C = opC o := ⟨_, rfl⟩
  rw [hY1, ← hCI, ← hCM] at hY2
  rw [← hCI, ← hCM]
  have HW : Hid ((w.alloc (.cells CI 89)).alloc (.cells CM 35) = Y2 ∧ Y2.heap.size = B + 2 ∧ Y2.alloc (.cells (svC none rcz) 89) = Y) := ⟨hY2.symm, s2, hY.symm⟩
  have HOX : Hid (w.heap.size = B) := hB.symm
  have HB2 : Hid (w.heap.size = B ∧ ∀ q, CB t M E q → q < B) := ⟨hB.symm, fun q hq => by rw [hB]; exact h.l.ca.tlt q hq⟩
  have HB3 : Hid (∀ q, SB t M E rc R q → q < B) := fun q hq => by rw [hB]; exact h.lt q hq
  have HWB : Hid (W.heap.size ≤ B) := by show _ ≤ _; rw [hB]; exact h.l.bel.size
  have HOK : Hid (OpOk o) := hok
  obtain ⟨kd, hkd⟩ : ∃ kd, kd = o.kd := ⟨_, rfl⟩
  have b0 : Y.cell? ⟨B + 1, 0, none⟩ = some (.int .i64 kd) := by rw [hkd]; exact HY.out.o.cell 0
  have c0 : Y.cell? ⟨B, 0, none⟩ = some (.pointer (some ⟨t, 0, none⟩)) := HY.out.s.cell 0
  have c2 : Y.cell? ⟨B + 1, 2, none⟩ = some (.int .i64 o.k.pt) := HY.out.o.cell 2
  have c26 : Y.cell? ⟨B + 1, 26, none⟩ = some (.int .i64 o.n) := HY.out.o.cell 26
  have HKE : Hid (o.kd = kd) := hkd.symm
  clear hi hY1 hB s1 b1 ho hY2 s2 b2 hY b3 s3 hr bY hCI hCM h hok hkd
  go_enter Try.func61, Try.ntmps61
  go_upto_region 1 with (first | (rw [HW.out.1]; refine wpList_alloc_sdv rfl rfl ?_; rw [HW.out.2.1, HW.out.2.2]; simp only [Act.put, List.setIfInBounds_toArray, List.set_cons_succ, List.set_cons_zero]))
  rw [HOX.out]
  clear HW
  by_cases h1 : kd = 1
  · have q1 : (kd == 1) = true := by simpa using h1
    have HKD : Hid (o.kd = 1) := by show _ = _; rw [HKE.out]; exact h1
    clear h1
    have QW : Hid _ := HSY.out.want o.k HOK.out.k o.n
    go_wp2_with (first | (refine wpList_mid_ipr (.tmp 36) rfl (B + 1) 3 o.k.V o.k.x rfl HY.out.o.ip rfl ?_))
    refine Calls.mono QW.out ?_
    rintro r w1 ⟨m, oc, er, E', rfl, hWR, hSM, hch, hcb⟩
    have HWR : Hid (WantR c E o.k o.n E' m oc er ∧ ∀ q, CB t M E' q → CB t M E q ∨ B + 3 ≤ q) := ⟨hWR, fun q hq => (hcb q hq).imp id (fun g => by have := HY.out.sz; omega)⟩
    have H1 : Hid (ST w B t M E o rc w1 ∧ SM W t M c E E' rc R w1) := ⟨HY.out.chq HB2.out hch (fun q hq => .inl hq), hSM⟩
    clear hWR hSM hch hcb QW HY HSY c0 c2 c26 b0
    obtain ⟨D1, hD1⟩ : ∃ D, D = w1.heap.size := ⟨_, rfl⟩
    obtain ⟨Z1, hZ1⟩ : ∃ Z, Z = w1.alloc (.cells (macC mz) 33) := ⟨_, rfl⟩
    have bZ1 : Below w1.heap.size w1 Z1 := by rw [hZ1]; exact (Below.refl _ _).alloc (Nat.le_refl _) _
    have nZ1 := mac_new w1 mz
    rw [← hZ1, ← hD1] at nZ1
    have sZ1 : Z1.heap.size = D1 + 1 := by rw [hZ1, World.size_alloc, hD1]
    have HZ1 : Hid (w1.heap.size = D1 ∧ w1.alloc (.cells (macC mz) 33) = Z1) := ⟨hD1.symm, hZ1.symm⟩
    have HZ : Hid (MacAt Z1 D1 mz) := nZ1
    have HZB : Hid (Below w1.heap.size w1 Z1 ∧ Z1.heap.size = D1 + 1) := ⟨bZ1, sZ1⟩
    clear hD1 hZ1 bZ1 nZ1 sZ1
    go_wp2_with (first | (refine wpList_alloc_mac rfl rfl ?_; rw [HZ1.out.1, HZ1.out.2]; simp only [Act.put, List.setIfInBounds_toArray, List.set_cons_succ, List.set_cons_zero]) | (refine wpList_store_mac (.tmp 6) (.tmp 41) rfl rfl D1 mz m rfl rfl HZ.out rfl ?_))
    intro w2 h2 k2
    have b2 : Below w1.heap.size w1 w2 := HZB.out.1.trans (k2.below (fun q e => by have e' : q = D1 := e; have := HZ1.out.1; omega) HZB.out.1.size)
    have H2 : Hid (ST w B t M E o rc w2 ∧ SM W t M c E E' rc R w2 ∧ MacAt w2 D1 m ∧ B + 3 ≤ D1 ∧ D1 < w2.heap.size) := ⟨H1.out.1.below HB2.out b2, H1.out.2.below b2, h2, by have := H1.out.1.sz; have := HZ1.out.1; omega, h2.lt⟩
    clear h2 k2 b2 HZ HZB HZ1 H1
    have e2 : w2.cell? ⟨B + 1, 2, none⟩ = some (.int .i64 o.k.pt) := H2.out.1.o.cell 2
    have e26 : w2.cell? ⟨B + 1, 26, none⟩ = some (.int .i64 o.n) := H2.out.1.o.cell 26
    have QR : Hid _ := H2.out.2.1.want HOK.out.k HWR.out.1
    go_wp2_with (first | (refine wpList_mid_rch (.tmp 45) rfl B 1 rc rfl H2.out.1.s.rc rfl ?_) | (refine wpList_mid_ipr (.tmp 49) rfl (B + 1) 3 o.k.V o.k.x rfl H2.out.1.o.ip rfl ?_))
    refine Calls.mono QR.out ?_
    rintro r w3 ⟨rc', R', rfl, hRW, hSS, b3, hrb⟩
    have H3 : Hid (ST w B t M E o rc w3 ∧ SS W t M c E' rc' R' w3 ∧ MacAt w3 D1 m ∧ B + 3 ≤ D1 ∧ D1 < w3.heap.size) := ⟨H2.out.1.below HB2.out b3, hSS, H2.out.2.2.1.below b3, H2.out.2.2.2.1, Nat.lt_of_lt_of_le H2.out.2.2.2.2 b3.size⟩
    have HSB : Hid (∀ q, SB t M E' rc' R' q → SB t M E rc R q ∨ B + 3 ≤ q) := fun q hq => by
      rcases hq with g | g
      · exact (HWR.out.2 q g).imp .inl id
      · exact (hrb q g).imp .inr (fun g => by have := H2.out.1.sz; omega)
    have HRW : Hid (RWantR c R o.k o.n R' m oc er) := hRW
    clear hRW hSS b3 hrb QR H2 e2 e26
    obtain ⟨D2, hD2⟩ : ∃ D, D = w3.heap.size := ⟨_, rfl⟩
    obtain ⟨Z2, hZ2⟩ : ∃ Z, Z = w3.alloc (.cells (rcC rcz) 87) := ⟨_, rfl⟩
    have bZ2 : Below w3.heap.size w3 Z2 := by rw [hZ2]; exact (Below.refl _ _).alloc (Nat.le_refl _) _
    have nZ2 := rch_new w3 rcz
    rw [← hZ2, ← hD2] at nZ2
    have sZ2 : Z2.heap.size = D2 + 1 := by rw [hZ2, World.size_alloc, hD2]
    have HZ2 : Hid (w3.heap.size = D2 ∧ w3.alloc (.cells (rcC rcz) 87) = Z2) := ⟨hD2.symm, hZ2.symm⟩
    obtain ⟨D3, hD3⟩ : ∃ D, D = Z2.heap.size := ⟨_, rfl⟩
    obtain ⟨Z3, hZ3⟩ : ∃ Z, Z = Z2.alloc (.cells (macC mz) 33) := ⟨_, rfl⟩
    have bZ3 : Below Z2.heap.size Z2 Z3 := by rw [hZ3]; exact (Below.refl _ _).alloc (Nat.le_refl _) _
    have nZ3 := mac_new Z2 mz
    rw [← hZ3, ← hD3] at nZ3
    have sZ3 : Z3.heap.size = D3 + 1 := by rw [hZ3, World.size_alloc, hD3]
    have HZ3 : Hid (Z2.heap.size = D3 ∧ Z2.alloc (.cells (macC mz) 33) = Z3) := ⟨hD3.symm, hZ3.symm⟩
    have HZ : Hid (RchAt Z3 D2 rcz ∧ MacAt Z3 D3 mz ∧ Below w3.heap.size w3 Z3 ∧ w3.heap.size = D2 ∧ D3 = D2 + 1 ∧ Z3.heap.size = D3 + 1) := ⟨nZ2.below bZ3, nZ3, bthen bZ2 bZ3, hD2.symm, by rw [hD3, sZ2], sZ3⟩
    clear hD2 hZ2 bZ2 nZ2 sZ2 hD3 hZ3 bZ3 nZ3 sZ3
    go_wp2_with (first | (refine wpList_alloc_rch rfl rfl ?_; rw [HZ2.out.1, HZ2.out.2]; simp only [Act.put, List.setIfInBounds_toArray, List.set_cons_succ, List.set_cons_zero]) | (refine wpList_alloc_mac rfl rfl ?_; rw [HZ3.out.1, HZ3.out.2]; simp only [Act.put, List.setIfInBounds_toArray, List.set_cons_succ, List.set_cons_zero]) | (refine wpList_store_rch (.tmp 9) (.tmp 54) rfl rfl D2 rcz rc' rfl rfl HZ.out.1 rfl ?_))
    intro w4 h4 k4
    have H4 : Hid (RchAt w4 D2 rc' ∧ MacAt w4 D3 mz ∧ Below w3.heap.size w3 w4) := ⟨h4, HZ.out.2.1.ch k4 (by have := HZ.out.2.2.2.2.1; omega), HZ.out.2.2.1.trans (k4.below (fun q e => by have e' : q = D2 := e; have := HZ.out.2.2.2.1; omega) HZ.out.2.2.1.size)⟩
    clear h4 k4
    go_wp2_with (first | (refine wpList_store_mac (.tmp 10) (.tmp 55) rfl rfl D3 mz m rfl rfl H4.out.2.1 rfl ?_))
    intro w5 h5 k5
    have b5 : Below w3.heap.size w3 w5 := H4.out.2.2.trans (k5.below (fun q e => by have e' : q = D3 := e; have := HZ.out; omega) H4.out.2.2.size)
    have H5 : Hid (ST w B t M E o rc w5 ∧ SS W t M c E' rc' R' w5 ∧ MacAt w5 D1 m ∧ MacAt w5 D3 m ∧ RchAt w5 D2 rc' ∧ B + 3 ≤ D1 ∧ B + 3 ≤ D3) := ⟨H3.out.1.below HB2.out b5, H3.out.2.1.below b5, H3.out.2.2.1.below b5, h5, H4.out.1.ch k5 (by have := HZ.out; omega), H3.out.2.2.2.1, by have := HZ.out; have := H3.out.1.sz; omega⟩
    clear h5 k5 b5 H4 HZ HZ2 HZ3 H3
    go_wp2_with (first | (refine wpList_load_rch (.tmp 9) rfl D2 rc' rfl H5.out.2.2.2.2.1 rfl ?_) | (refine wpList_store_sdr (.tmp 59) (.tmp 58) rfl rfl B (some ⟨t, 0, none⟩) rc rc' rfl rfl H5.out.1.s rfl ?_))
    intro w6 h6 k6
    have HS : Hid (SS W t M c E' rc' R' w6 ∧ Ch (CB t M E) w w6 ∧ SdvAt w6 (B + 2) none rcz) := ⟨H5.out.2.1.ch k6 (fun q hq e => sb_ne HB3.out (HSB.out q hq) (Nat.le_refl _) (by omega) e) (fun q e => by have e' : q = B := e; have := HWB.out; omega), H5.out.1.ch.trans k6 (fun q hq e => by have e' : q = B := e; have := HOX.out; omega), H5.out.1.r.ch k6 (by omega)⟩
    have H0 : Hid (SdvAt w6 B (some ⟨t, 0, none⟩) rc' ∧ MacAt w6 D1 m ∧ MacAt w6 D3 m) := ⟨h6, H5.out.2.2.1.ch k6 (by have := H5.out; omega), H5.out.2.2.2.1.ch k6 (by have := H5.out; omega)⟩
    have HDD : Hid (B + 3 ≤ D1 ∧ B + 3 ≤ D3) := ⟨H5.out.2.2.2.2.2.1, H5.out.2.2.2.2.2.2⟩
    clear h6 k6 H5
    go_upto_region 6 with fail
    refine MixH.start (fun A => SdvAt A B (some ⟨t, 0, none⟩) rc' ∧ (MacAt A D1 m ∧ MacAt A D3 m)) (by kernel_rfl) ?_
    obtain ⟨wA, hwA⟩ : ∃ wA, wA = w6.drew := ⟨_, rfl⟩
    have bdr : Below w6.heap.size w6 wA := by rw [hwA]; exact (Below.refl _ _).drew
    have HSA : Hid (SS W t M c E' rc' R' wA ∧ Ch (CB t M E) w wA ∧ SdvAt wA (B + 2) none rcz) := ⟨HS.out.1.below bdr, ch_then HS.out.2.1 bdr, HS.out.2.2.below bdr⟩
    have hS : SdvAt wA B (some ⟨t, 0, none⟩) rc' ∧ (MacAt wA D1 m ∧ MacAt wA D3 m) := ⟨H0.out.1.below bdr, H0.out.2.1.below bdr, H0.out.2.2.below bdr⟩
    rw [← hwA]
    clear hwA bdr HS H0
    refine MixH.take 16 0 _ (.agg (svC (some ⟨t, 0, none⟩) rc')) rfl (by kernel_rfl) (by kernel_rfl) (by kernel_rfl) (by kernel_rfl) (yields_sdv (.tmp 2) rfl B 0 (some ⟨t, 0, none⟩) rc' rfl rfl (fun A hA => SdvAt.all hA.1)) hS (fun a' ha => ?_)
    simp only [Act.put, List.setIfInBounds_toArray, List.set_cons_succ, List.set_cons_zero] at ha
    subst ha
    refine MixH.take 15 1 _ (.agg (macC m)) rfl (by kernel_rfl) (by kernel_rfl) (by kernel_rfl) (by kernel_rfl) (yields_mac (.tmp 6) rfl D1 0 m rfl rfl (fun A hA => MacAt.all hA.2.1)) hS (fun a' ha => ?_)
    simp only [Act.put, List.setIfInBounds_toArray, List.set_cons_succ, List.set_cons_zero] at ha
    subst ha
    refine MixH.take 14 2 _ (.agg (macC m)) rfl (by kernel_rfl) (by kernel_rfl) (by kernel_rfl) (by kernel_rfl) (yields_mac (.tmp 10) rfl D3 0 m rfl rfl (fun A hA => MacAt.all hA.2.2)) hS (fun a' ha => ?_)
    simp only [Act.put, List.setIfInBounds_toArray, List.set_cons_succ, List.set_cons_zero] at ha
    subst ha
    refine MixH.take 13 3 _ (.bool true) rfl (by kernel_rfl) (by kernel_rfl) (by kernel_rfl) (by kernel_rfl) (yields_eql_mac (.tmp 61) (.tmp 62) rfl m rfl rfl rfl) hS (fun a' ha => ?_)
    simp only [Act.put, List.setIfInBounds_toArray, List.set_cons_succ, List.set_cons_zero] at ha
    subst ha
    refine MixH.takes [false, false, false, false, true] 12 (by kernel_rfl) (by kernel_rfl) (by decide) (by kernel_rfl) hS (fun K hK => ?_)
    simp only [Mix.pick]
    repeat (go_big_quiet_step (fail))
    refine wpQuiet_nil (hK _ ?_)
    clear hK K
    refine MixH.takes [false, false, false, false, false, true, true] 10 (by kernel_rfl) (by kernel_rfl) (by decide) (by kernel_rfl) hS (fun K hK => ?_)
    simp only [Mix.pick]
    repeat (go_big_quiet_step (fail))
    refine wpQuiet_nil (hK _ ?_)
    clear hK K
    refine MixH.takes [false, false, false, false, false, false, false, true] 9 (by kernel_rfl) (by kernel_rfl) (by decide) (by kernel_rfl) hS (fun K hK => ?_)
    simp only [Mix.pick]
    repeat (go_big_quiet_step (fail))
    refine wpQuiet_nil (hK _ ?_)
    clear hK K
    refine MixH.takes [false, false, false, false, false, false, false, false, true] 8 (by kernel_rfl) (by kernel_rfl) (by decide) (by kernel_rfl) hS (fun K hK => ?_)
    simp only [Mix.pick]
    repeat (go_big_quiet_step (fail))
    refine wpQuiet_nil (hK _ ?_)
    clear hK K
    refine MixH.takes [false, false, false, false, false, false, false, false, false, true] 7 (by kernel_rfl) (by kernel_rfl) (by decide) (by kernel_rfl) hS (fun K hK => ?_)
    simp only [Mix.pick]
    repeat (go_big_quiet_step (fail))
    refine wpQuiet_nil (hK _ ?_)
    clear hK K
    refine MixH.takes [false, false, false, false, false, false, false, false, false, false, true, false, true] 5 (by kernel_rfl) (by kernel_rfl) (by decide) (by kernel_rfl) hS (fun K hK => ?_)
    simp only [Mix.pick]
    repeat (go_big_quiet_step (fail))
    refine wpQuiet_nil (hK _ ?_)
    clear hK K
    refine MixH.one [false, false, false, false, false, false, false, false, false, false, false, true] 4 11 _ rfl rfl (by kernel_rfl) (by kernel_rfl) (fun K hK => ?_)
    simp only [Mix.pick]
    go_wp2_with fail
    refine Calls.mono (num_any er wA) ?_
    rintro r x ⟨rfl, rfl⟩
    go_wp2
    refine ⟨rfl, hK _ _ hS ?_⟩
    clear hK K
    refine MixH.takes [false, false, false, false, false, false, false, false, false, false, false, false, false, true] 3 (by kernel_rfl) (by kernel_rfl) (by decide) (by kernel_rfl) hS (fun K hK => ?_)
    simp only [Mix.pick]
    repeat (go_big_quiet_step (fail))
    refine wpQuiet_nil (hK _ ?_)
    clear hK K
    refine MixH.takes [false, false, false, false, false, false, false, false, false, false, false, false, false, false, true] 2 (by kernel_rfl) (by kernel_rfl) (by decide) (by kernel_rfl) hS (fun K hK => ?_)
    simp only [Mix.pick]
    repeat (go_big_quiet_step (fail))
    refine wpQuiet_nil (hK _ ?_)
    clear hK K
    refine MixH.one [false, false, false, false, false, false, false, false, false, false, false, false, false, false, false, true] 1 15 _ rfl rfl (by kernel_rfl) (by kernel_rfl) (fun K hK => ?_)
    simp only [Mix.pick]
    refine wpList_store_sdv (.tmp 4) (.tmp 60) rfl rfl (B + 2) none rcz (some ⟨t, 0, none⟩) rc' rfl rfl HSA.out.2.2 rfl ?_
    intro wE hE kE
    have HE : Hid (SdvAt wE (B + 2) (some ⟨t, 0, none⟩) rc' ∧ SS W t M c E' rc' R' wE ∧ Ch (CB t M E) w wE) := ⟨hE, HSA.out.1.ch kE (fun q hq e => sb_ne HB3.out (HSB.out q hq) (by omega) (by omega) e) (fun q e => by have e' : q = B + 2 := e; have := HSA.out.1.l.bel.size; have := HWB.out; have := HOX.out; omega), HSA.out.2.1.trans kE (fun q hq e => by have e' : q = B + 2 := e; have := HOX.out; omega)⟩
    replace hS : SdvAt wE B (some ⟨t, 0, none⟩) rc' ∧ (MacAt wE D1 m ∧ MacAt wE D3 m) := ⟨hS.1.ch kE (by omega), hS.2.1.ch kE (by have := HDD.out; omega), hS.2.2.ch kE (by have := HDD.out; omega)⟩
    clear hE kE HSA
    go_wp2
    refine ⟨rfl, hK _ _ hS ?_⟩
    clear hK K
    refine MixH.takes [false, false, false, false, false, false, false, false, false, false, false, false, false, false, false, false, true] 0 (by kernel_rfl) (by kernel_rfl) (by decide) (by kernel_rfl) hS (fun K hK => ?_)
    simp only [Mix.pick]
    repeat (go_big_quiet_step (fail))
    refine wpQuiet_nil (hK _ ?_)
    clear hK K
    refine MixH.done (by kernel_rfl) ?_
    clear hS
    go_wp2_with fail
    refine bodyPost_ret (results_sdv_tmp rfl _ _ (B + 2) _ _ rfl HE.out.1) rfl ?_
    exact ⟨E', rc', R', rfl, ⟨fun _ => ⟨m, oc, er, HRW.out⟩, fun h => by have := HKD.out; omega, fun h => by have := HKD.out; omega, fun h => absurd HKD.out h⟩, HE.out.2.1, HE.out.2.2, fun q hq => (HSB.out q hq).imp id (fun g => by have := HOX.out; omega)⟩
  have q1 : (kd == 1) = false := by simpa using h1
  by_cases h2 : kd = 2
  · have q2 : (kd == 2) = true := by simpa using h2
    have HKD : Hid (o.kd = 2) := by show _ = _; rw [HKE.out]; exact h2
    have q1 : (kd == 1) = false := by rw [h2]; rfl
    clear h2
    have QW : Hid _ := HSY.out.learn o.k HOK.out.k o.m HOK.out.m o.n
    go_wp2_with (first | (refine wpList_mid_ipr (.tmp 82) rfl (B + 1) 3 o.k.V o.k.x rfl HY.out.o.ip rfl ?_) | (refine wpList_mid_mac (.tmp 84) rfl (B + 1) 20 o.m rfl HY.out.o.mac rfl ?_))
    refine Calls.mono QW.out ?_
    rintro r w1 ⟨v, l, er, E', rfl, hWR, hln, hSM, hch, hcb⟩
    obtain ⟨va, vc, hv⟩ := hln.form
    obtain ⟨nl, hnl⟩ : ∃ nl, nl = l.length := ⟨_, rfl⟩
    rw [← hnl] at hv
    have HWR : Hid (LearnR c E o.k o.m o.n E' v l er ∧ ∀ q, CB t M E' q → CB t M E q ∨ B + 3 ≤ q) := ⟨hWR, fun q hq => (hcb q hq).imp id (fun g => by have := HY.out.sz; omega)⟩
    subst hv
    have H1 : Hid (ST w B t M E o rc w1 ∧ SM W t M c E E' rc R w1 ∧ Seg .i64 w1 va l) := ⟨HY.out.chq HB2.out hch (fun q hq => .inl hq), hSM, LnAt.seg hln⟩
    have HNL : Hid (nl = l.length ∧ l.length ≤ 9223372036854775807) := ⟨hnl, ln_len hln⟩
    have HVA : Hid (∀ x, l ≠ [] → va = some x → x.block ≠ B) := fun x hz hx => by
      obtain ⟨c9, h9⟩ := hln.kind x.block (by rw [hx]; rfl)
      exact kind_ne h9 H1.out.1.s (by decide)
    clear hWR hSM hch hcb QW HY HSY hln hnl c0 c2 c26 b0
    have e2 : w1.cell? ⟨B + 1, 2, none⟩ = some (.int .i64 o.k.pt) := H1.out.1.o.cell 2
    have e26 : w1.cell? ⟨B + 1, 26, none⟩ = some (.int .i64 o.n) := H1.out.1.o.cell 26
    have QR : Hid _ := H1.out.2.1.learn HOK.out.k HOK.out.m HWR.out.1
    go_wp2_with (first | (refine wpList_mid_rch (.tmp 92) rfl B 1 rc rfl H1.out.1.s.rc rfl ?_) | (refine wpList_mid_ipr (.tmp 96) rfl (B + 1) 3 o.k.V o.k.x rfl H1.out.1.o.ip rfl ?_) | (refine wpList_mid_mac (.tmp 98) rfl (B + 1) 20 o.m rfl H1.out.1.o.mac rfl ?_))
    refine Calls.mono QR.out ?_
    rintro r w3 ⟨rc', R', la, lc, rfl, hRW, hSS, hsg, hla, b3, hrb⟩
    rw [← HNL.out.1]
    have H3 : Hid (ST w B t M E o rc w3 ∧ SS W t M c E' rc' R' w3 ∧ Seg .i64 w3 va l ∧ Seg .i64 w3 la l) := ⟨H1.out.1.below HB2.out b3, hSS, H1.out.2.2.old b3, hsg⟩
    have HSB : Hid (∀ q, SB t M E' rc' R' q → SB t M E rc R q ∨ B + 3 ≤ q) := fun q hq => by
      rcases hq with g | g
      · exact (HWR.out.2 q g).imp .inl id
      · exact (hrb q g).imp .inr (fun g => by have := H1.out.1.sz; omega)
    have HLA : Hid (∀ x, l ≠ [] → la = some x → x.block ≠ B) := fun x hz hx => by have := HB3.out _ (.inr (hla _ _ (seg_form hsg hz hx))); omega
    have HRW : Hid (RLearnR c R o.k o.m o.n R' l er) := hRW
    clear hRW hSS b3 hrb QR H1 e2 e26 hsg hla
    obtain ⟨D2, hD2⟩ : ∃ D, D = w3.heap.size := ⟨_, rfl⟩
    obtain ⟨Z2, hZ2⟩ : ∃ Z, Z = w3.alloc (.cells (rcC rcz) 87) := ⟨_, rfl⟩
    have bZ2 : Below w3.heap.size w3 Z2 := by rw [hZ2]; exact (Below.refl _ _).alloc (Nat.le_refl _) _
    have nZ2 := rch_new w3 rcz
    rw [← hZ2, ← hD2] at nZ2
    have sZ2 : Z2.heap.size = D2 + 1 := by rw [hZ2, World.size_alloc, hD2]
    have HZ2 : Hid (w3.heap.size = D2 ∧ w3.alloc (.cells (rcC rcz) 87) = Z2) := ⟨hD2.symm, hZ2.symm⟩
    have HZ : Hid (RchAt Z2 D2 rcz ∧ Below w3.heap.size w3 Z2 ∧ w3.heap.size = D2) := ⟨nZ2, bZ2, hD2.symm⟩
    clear hD2 hZ2 bZ2 nZ2 sZ2
    go_wp2_with (first | (refine wpList_alloc_rch rfl rfl ?_; rw [HZ2.out.1, HZ2.out.2]; simp only [Act.put, List.setIfInBounds_toArray, List.set_cons_succ, List.set_cons_zero]) | (refine wpList_store_rch (.tmp 15) (.tmp 103) rfl rfl D2 rcz rc' rfl rfl HZ.out.1 rfl ?_))
    intro w4 h4 k4
    have b4 : Below w3.heap.size w3 w4 := HZ.out.2.1.trans (k4.below (fun q e => by have e' : q = D2 := e; have := HZ.out.2.2; omega) HZ.out.2.1.size)
    have H5 : Hid (ST w B t M E o rc w4 ∧ SS W t M c E' rc' R' w4 ∧ Seg .i64 w4 va l ∧ Seg .i64 w4 la l ∧ RchAt w4 D2 rc' ∧ B + 3 ≤ D2) := ⟨H3.out.1.below HB2.out b4, H3.out.2.1.below b4, H3.out.2.2.1.old b4, H3.out.2.2.2.old b4, h4, by have := HZ.out; have := H3.out.1.sz; omega⟩
    clear h4 k4 b4 HZ HZ2 H3
    go_wp2_with (first | (refine wpList_load_rch (.tmp 15) rfl D2 rc' rfl H5.out.2.2.2.2.1 rfl ?_) | (refine wpList_store_sdr (.tmp 107) (.tmp 106) rfl rfl B (some ⟨t, 0, none⟩) rc rc' rfl rfl H5.out.1.s rfl ?_))
    intro w6 h6 k6
    have HS : Hid (SS W t M c E' rc' R' w6 ∧ Ch (CB t M E) w w6 ∧ SdvAt w6 (B + 2) none rcz) := ⟨H5.out.2.1.ch k6 (fun q hq e => sb_ne HB3.out (HSB.out q hq) (Nat.le_refl _) (by omega) e) (fun q e => by have e' : q = B := e; have := HWB.out; omega), H5.out.1.ch.trans k6 (fun q hq e => by have e' : q = B := e; have := HOX.out; omega), H5.out.1.r.ch k6 (by omega)⟩
    have H0 : Hid (SdvAt w6 B (some ⟨t, 0, none⟩) rc' ∧ True) := ⟨h6, trivial⟩
    have HSG : Hid (Seg .i64 w6 va l ∧ Seg .i64 w6 la l) := ⟨seg_box H5.out.2.2.1 k6 HVA.out, seg_box H5.out.2.2.2.1 k6 HLA.out⟩
    clear h6 k6 H5
    go_upto_region 11 with fail
    refine MixH.start (fun A => SdvAt A B (some ⟨t, 0, none⟩) rc' ∧ (True)) (by kernel_rfl) ?_
    obtain ⟨wA, hwA⟩ : ∃ wA, wA = w6.drew := ⟨_, rfl⟩
    have bdr : Below w6.heap.size w6 wA := by rw [hwA]; exact (Below.refl _ _).drew
    have HSA : Hid (SS W t M c E' rc' R' wA ∧ Ch (CB t M E) w wA ∧ SdvAt wA (B + 2) none rcz) := ⟨HS.out.1.below bdr, ch_then HS.out.2.1 bdr, HS.out.2.2.below bdr⟩
    have hS : SdvAt wA B (some ⟨t, 0, none⟩) rc' ∧ (True) := ⟨H0.out.1.below bdr, trivial⟩
    have HSGA : Hid (Seg .i64 wA va l ∧ Seg .i64 wA la l) := ⟨HSG.out.1.old bdr, HSG.out.2.old bdr⟩
    rw [← hwA]
    clear hwA bdr HS H0 HSG
    refine MixH.take 11 0 _ (.agg (svC (some ⟨t, 0, none⟩) rc')) rfl (by kernel_rfl) (by kernel_rfl) (by kernel_rfl) (by kernel_rfl) (yields_sdv (.tmp 2) rfl B 0 (some ⟨t, 0, none⟩) rc' rfl rfl (fun A hA => SdvAt.all hA.1)) hS (fun a' ha => ?_)
    simp only [Act.put, List.setIfInBounds_toArray, List.set_cons_succ, List.set_cons_zero] at ha
    subst ha
    refine MixH.takes [false, true, true] 9 (by kernel_rfl) (by kernel_rfl) (by decide) (by kernel_rfl) hS (fun K hK => ?_)
    simp only [Mix.pick]
    repeat (go_big_quiet_step (fail))
    refine wpQuiet_nil (hK _ ?_)
    clear hK K
    refine MixH.one [false, false, false, true] 8 3 _ rfl rfl (by kernel_rfl) (by kernel_rfl) (fun K hK => ?_)
    simp only [Mix.pick]
    go_wp2_with fail
    have QS : Hid _ := sameInts_any va la vc lc l l wA (HSGA.out.1) (HSGA.out.2) HNL.out.2
    rw [← HNL.out.1, decide_eq_true (rfl : l = l)] at QS
    refine Calls.mono QS.out ?_
    rintro r wB ⟨rfl, bB⟩
    replace HSA : Hid (SS W t M c E' rc' R' wB ∧ Ch (CB t M E) w wB ∧ SdvAt wB (B + 2) none rcz) := ⟨HSA.out.1.below bB, ch_then HSA.out.2.1 bB, HSA.out.2.2.below bB⟩
    replace hS : SdvAt wB B (some ⟨t, 0, none⟩) rc' ∧ True := ⟨hS.1.below bB, trivial⟩
    clear bB QS HSGA
    go_wp2
    refine ⟨rfl, hK _ _ hS ?_⟩
    clear hK K
    refine MixH.takes [false, false, false, false, true] 7 (by kernel_rfl) (by kernel_rfl) (by decide) (by kernel_rfl) hS (fun K hK => ?_)
    simp only [Mix.pick]
    repeat (go_big_quiet_step (fail))
    refine wpQuiet_nil (hK _ ?_)
    clear hK K
    refine MixH.takes [false, false, false, false, false, true, false, true] 5 (by kernel_rfl) (by kernel_rfl) (by decide) (by kernel_rfl) hS (fun K hK => ?_)
    simp only [Mix.pick]
    repeat (go_big_quiet_step (fail))
    refine wpQuiet_nil (hK _ ?_)
    clear hK K
    refine MixH.one [false, false, false, false, false, false, true] 4 6 _ rfl rfl (by kernel_rfl) (by kernel_rfl) (fun K hK => ?_)
    simp only [Mix.pick]
    go_wp2_with fail
    refine Calls.mono (num_any er wB) ?_
    rintro r x ⟨rfl, rfl⟩
    go_wp2
    refine ⟨rfl, hK _ _ hS ?_⟩
    clear hK K
    refine MixH.takes [false, false, false, false, false, false, false, false, true] 3 (by kernel_rfl) (by kernel_rfl) (by decide) (by kernel_rfl) hS (fun K hK => ?_)
    simp only [Mix.pick]
    repeat (go_big_quiet_step (fail))
    refine wpQuiet_nil (hK _ ?_)
    clear hK K
    refine MixH.takes [false, false, false, false, false, false, false, false, false, true] 2 (by kernel_rfl) (by kernel_rfl) (by decide) (by kernel_rfl) hS (fun K hK => ?_)
    simp only [Mix.pick]
    repeat (go_big_quiet_step (fail))
    refine wpQuiet_nil (hK _ ?_)
    clear hK K
    refine MixH.one [false, false, false, false, false, false, false, false, false, false, true] 1 10 _ rfl rfl (by kernel_rfl) (by kernel_rfl) (fun K hK => ?_)
    simp only [Mix.pick]
    refine wpList_store_sdv (.tmp 4) (.tmp 108) rfl rfl (B + 2) none rcz (some ⟨t, 0, none⟩) rc' rfl rfl HSA.out.2.2 rfl ?_
    intro wE hE kE
    have HE : Hid (SdvAt wE (B + 2) (some ⟨t, 0, none⟩) rc' ∧ SS W t M c E' rc' R' wE ∧ Ch (CB t M E) w wE) := ⟨hE, HSA.out.1.ch kE (fun q hq e => sb_ne HB3.out (HSB.out q hq) (by omega) (by omega) e) (fun q e => by have e' : q = B + 2 := e; have := HSA.out.1.l.bel.size; have := HWB.out; have := HOX.out; omega), HSA.out.2.1.trans kE (fun q hq e => by have e' : q = B + 2 := e; have := HOX.out; omega)⟩
    replace hS : SdvAt wE B (some ⟨t, 0, none⟩) rc' ∧ (True) := ⟨hS.1.ch kE (by omega), trivial⟩
    clear hE kE HSA
    go_wp2
    refine ⟨rfl, hK _ _ hS ?_⟩
    clear hK K
    refine MixH.takes [false, false, false, false, false, false, false, false, false, false, false, true] 0 (by kernel_rfl) (by kernel_rfl) (by decide) (by kernel_rfl) hS (fun K hK => ?_)
    simp only [Mix.pick]
    repeat (go_big_quiet_step (fail))
    refine wpQuiet_nil (hK _ ?_)
    clear hK K
    refine MixH.done (by kernel_rfl) ?_
    clear hS
    go_wp2_with fail
    refine bodyPost_ret (results_sdv_tmp rfl _ _ (B + 2) _ _ rfl HE.out.1) rfl ?_
    exact ⟨E', rc', R', rfl, ⟨fun h => by have := HKD.out; omega, fun _ => ⟨l, er, HRW.out⟩, fun h => by have := HKD.out; omega, fun _ h => absurd HKD.out h⟩, HE.out.2.1, HE.out.2.2, fun q hq => (HSB.out q hq).imp id (fun g => by have := HOX.out; omega)⟩
  have q2 : (kd == 2) = false := by simpa using h2
  by_cases h3 : kd = 3
  · have q3 : (kd == 3) = true := by simpa using h3
    have HKD : Hid (o.kd = 3) := by show _ = _; rw [HKE.out]; exact h3
    have q1 : (kd == 1) = false := by rw [h3]; rfl
    have q2 : (kd == 2) = false := by rw [h3]; rfl
    clear h3
    have QW : Hid _ := HSY.out.tick
    go_wp2_with fail
    refine Calls.mono QW.out ?_
    rintro r w1 ⟨av, lv, rfl, hal, hil, hSM, hch, hcb⟩
    have HWR : Hid (∀ q, CB t M (E.filterMap (tickE c)) q → CB t M E q ∨ B + 3 ≤ q) := fun q hq => (hcb q hq).imp id (fun g => by have := HY.out.sz; omega)
    have H1 : Hid (ST w B t M E o rc w1 ∧ SM W t M c E (E.filterMap (tickE c)) rc R w1 ∧ AL w1 Y.heap.size av (R.filterMap (rak c)) ∧ IL w1 Y.heap.size lv (R.flatMap (rlo c))) := ⟨HY.out.chq HB2.out hch (fun q hq => .inl hq), hSM, hal, hil⟩
    have HLN : Hid ((R.filterMap (rak c)).length ≤ 100000 ∧ (R.flatMap (rlo c)).length ≤ 100000) := by
      have h1 := (rtk_len c R).2
      have h2 := rlo_len (c := c) (L := R) (fun e he => by obtain ⟨a, ha, h1⟩ := HSY.out.mem he; rw [← h1]; exact HSY.out.l.ok.lns HSY.out.l.cf a ha)
      have h3 := HSY.out.n
      have h4 := HSY.out.r.len
      exact ⟨by omega, by omega⟩
    clear hSM hch hcb QW HY HSY hal hil c0 c2 c26 b0
    have QR : Hid _ := H1.out.2.1.tick
    go_wp2_with (first | (refine wpList_mid_rch (.tmp 127) rfl B 1 rc rfl H1.out.1.s.rc rfl ?_))
    refine Calls.mono QR.out ?_
    rintro r w3 ⟨rc', va, vo, rfl, hal, hil, hSS, b3, hrb⟩
    obtain ⟨ET, hET⟩ : ∃ ET, ET = E.filterMap (tickE c) := ⟨_, rfl⟩
    obtain ⟨RT, hRT⟩ : ∃ RT, RT = R.filterMap (rtk c) := ⟨_, rfl⟩
    obtain ⟨AA, hAA⟩ : ∃ AA, AA = R.filterMap (rak c) := ⟨_, rfl⟩
    obtain ⟨LL, hLL⟩ : ∃ LL, LL = R.flatMap (rlo c) := ⟨_, rfl⟩
    rw [← hET, ← hRT] at hSS
    rw [← hRT] at hrb
    rw [← hAA] at hal
    rw [← hLL] at hil
    rw [← hET] at HWR
    rw [← hAA, ← hLL] at HLN
    have H3 : Hid (ST w B t M E o rc w3 ∧ SS W t M c ET rc' RT w3 ∧ AL w3 Y.heap.size av AA ∧ AL w3 w1.heap.size va AA ∧ IL w3 Y.heap.size lv LL ∧ IL w3 w1.heap.size vo LL) := ⟨H1.out.1.below HB2.out b3, hSS, by have h9 := H1.out.2.2.1.below b3; rw [← hAA] at h9; exact h9, hal, by have h9 := IL.below H1.out.2.2.2 b3; rw [← hLL] at h9; exact h9, hil⟩
    have HSB : Hid (∀ q, SB t M ET rc' RT q → SB t M E rc R q ∨ B + 3 ≤ q) := fun q hq => by
      rcases hq with g | g
      · exact (HWR.out q g).imp .inl id
      · exact (hrb q g).imp .inr (fun g => by have := H1.out.1.sz; omega)
    have HRW : Hid (RT = R.filterMap (rtk c)) := hRT
    clear hSS b3 hrb QR H1 hal hil hET hRT hAA hLL
    obtain ⟨D2, hD2⟩ : ∃ D, D = w3.heap.size := ⟨_, rfl⟩
    obtain ⟨Z2, hZ2⟩ : ∃ Z, Z = w3.alloc (.cells (rcC rcz) 87) := ⟨_, rfl⟩
    have bZ2 : Below w3.heap.size w3 Z2 := by rw [hZ2]; exact (Below.refl _ _).alloc (Nat.le_refl _) _
    have nZ2 := rch_new w3 rcz
    rw [← hZ2, ← hD2] at nZ2
    have sZ2 : Z2.heap.size = D2 + 1 := by rw [hZ2, World.size_alloc, hD2]
    have HZ2 : Hid (w3.heap.size = D2 ∧ w3.alloc (.cells (rcC rcz) 87) = Z2) := ⟨hD2.symm, hZ2.symm⟩
    have HZ : Hid (RchAt Z2 D2 rcz ∧ Below w3.heap.size w3 Z2 ∧ w3.heap.size = D2) := ⟨nZ2, bZ2, hD2.symm⟩
    clear hD2 hZ2 bZ2 nZ2 sZ2
    go_wp2_with (first | (refine wpList_alloc_rch rfl rfl ?_; rw [HZ2.out.1, HZ2.out.2]; simp only [Act.put, List.setIfInBounds_toArray, List.set_cons_succ, List.set_cons_zero]) | (refine wpList_store_rch (.tmp 20) (.tmp 130) rfl rfl D2 rcz rc' rfl rfl HZ.out.1 rfl ?_))
    intro w4 h4 k4
    have b4 : Below w3.heap.size w3 w4 := HZ.out.2.1.trans (k4.below (fun q e => by have e' : q = D2 := e; have := HZ.out.2.2; omega) HZ.out.2.1.size)
    have H5 : Hid (ST w B t M E o rc w4 ∧ SS W t M c ET rc' RT w4 ∧ RchAt w4 D2 rc' ∧ B + 3 ≤ D2 ∧ AL w4 Y.heap.size av AA ∧ AL w4 w1.heap.size va AA ∧ IL w4 Y.heap.size lv LL ∧ IL w4 w1.heap.size vo LL) := ⟨H3.out.1.below HB2.out b4, H3.out.2.1.below b4, h4, by have := HZ.out; have := H3.out.1.sz; omega, H3.out.2.2.1.below b4, H3.out.2.2.2.1.below b4, IL.below H3.out.2.2.2.2.1 b4, IL.below H3.out.2.2.2.2.2 b4⟩
    clear h4 k4 b4 HZ HZ2 H3
    go_wp2_with (first | (refine wpList_load_rch (.tmp 20) rfl D2 rc' rfl H5.out.2.2.1 rfl ?_) | (refine wpList_store_sdr (.tmp 134) (.tmp 133) rfl rfl B (some ⟨t, 0, none⟩) rc rc' rfl rfl H5.out.1.s rfl ?_))
    intro w6 h6 k6
    have HS : Hid (SS W t M c ET rc' RT w6 ∧ Ch (CB t M E) w w6 ∧ SdvAt w6 (B + 2) none rcz) := ⟨H5.out.2.1.ch k6 (fun q hq e => sb_ne HB3.out (HSB.out q hq) (Nat.le_refl _) (by omega) e) (fun q e => by have e' : q = B := e; have := HWB.out; omega), H5.out.1.ch.trans k6 (fun q hq e => by have e' : q = B := e; have := HOX.out; omega), H5.out.1.r.ch k6 (by omega)⟩
    have H0 : Hid (SdvAt w6 B (some ⟨t, 0, none⟩) rc' ∧ True) := ⟨h6, trivial⟩
    have HSG : Hid (AL w6 Y.heap.size av AA ∧ AL w6 w1.heap.size va AA ∧ IL w6 Y.heap.size lv LL ∧ IL w6 w1.heap.size vo LL) := ⟨H5.out.2.2.2.2.1.ch k6 (fun g hg e => by obtain ⟨_, _, c9, h9⟩ := H5.out.2.2.2.2.1.cells g hg; have e' : g = B := e; exact kind_ne h9 H5.out.1.s (by decide) e'), H5.out.2.2.2.2.2.1.ch k6 (fun g hg e => by obtain ⟨_, _, c9, h9⟩ := H5.out.2.2.2.2.2.1.cells g hg; have e' : g = B := e; exact kind_ne h9 H5.out.1.s (by decide) e'), IL.ch H5.out.2.2.2.2.2.2.1 k6 (fun g hg e => by obtain ⟨_, _, c9, h9⟩ := IL.cells H5.out.2.2.2.2.2.2.1 g hg; have e' : g = B := e; exact kind_ne h9 H5.out.1.s (by decide) e'), IL.ch H5.out.2.2.2.2.2.2.2 k6 (fun g hg e => by obtain ⟨_, _, c9, h9⟩ := IL.cells H5.out.2.2.2.2.2.2.2 g hg; have e' : g = B := e; exact kind_ne h9 H5.out.1.s (by decide) e')⟩
    clear h6 k6 H5
    go_upto_region 16 with fail
    refine MixH.start (fun A => SdvAt A B (some ⟨t, 0, none⟩) rc' ∧ (True)) (by kernel_rfl) ?_
    obtain ⟨wA, hwA⟩ : ∃ wA, wA = w6.drew := ⟨_, rfl⟩
    have bdr : Below w6.heap.size w6 wA := by rw [hwA]; exact (Below.refl _ _).drew
    have HSA : Hid (SS W t M c ET rc' RT wA ∧ Ch (CB t M E) w wA ∧ SdvAt wA (B + 2) none rcz) := ⟨HS.out.1.below bdr, ch_then HS.out.2.1 bdr, HS.out.2.2.below bdr⟩
    have hS : SdvAt wA B (some ⟨t, 0, none⟩) rc' ∧ (True) := ⟨H0.out.1.below bdr, trivial⟩
    have HSGA : Hid (AL wA Y.heap.size av AA ∧ AL wA w1.heap.size va AA ∧ IL wA Y.heap.size lv LL ∧ IL wA w1.heap.size vo LL) := ⟨HSG.out.1.below bdr, HSG.out.2.1.below bdr, IL.below HSG.out.2.2.1 bdr, IL.below HSG.out.2.2.2 bdr⟩
    rw [← hwA]
    clear hwA bdr HS H0 HSG
    refine MixH.take 10 0 _ (.agg (svC (some ⟨t, 0, none⟩) rc')) rfl (by kernel_rfl) (by kernel_rfl) (by kernel_rfl) (by kernel_rfl) (yields_sdv (.tmp 2) rfl B 0 (some ⟨t, 0, none⟩) rc' rfl rfl (fun A hA => SdvAt.all hA.1)) hS (fun a' ha => ?_)
    simp only [Act.put, List.setIfInBounds_toArray, List.set_cons_succ, List.set_cons_zero] at ha
    subst ha
    refine MixH.takes [false, true, true] 8 (by kernel_rfl) (by kernel_rfl) (by decide) (by kernel_rfl) hS (fun K hK => ?_)
    simp only [Mix.pick]
    repeat (go_big_quiet_step (fail))
    refine wpQuiet_nil (hK _ ?_)
    clear hK K
    refine MixH.one [false, false, false, true] 7 3 _ rfl rfl (by kernel_rfl) (by kernel_rfl) (fun K hK => ?_)
    simp only [Mix.pick]
    go_wp2_with fail
    refine Calls.mono (sameAsks_true av va AA Y.heap.size w1.heap.size wA HSGA.out.1 HSGA.out.2.1 HLN.out.1) ?_
    rintro r wB ⟨rfl, bB⟩
    have HIL : Hid (IL wB Y.heap.size lv LL ∧ IL wB w1.heap.size vo LL) := ⟨IL.below HSGA.out.2.2.1 bB, IL.below HSGA.out.2.2.2 bB⟩
    replace HSA : Hid (SS W t M c ET rc' RT wB ∧ Ch (CB t M E) w wB ∧ SdvAt wB (B + 2) none rcz) := ⟨HSA.out.1.below bB, ch_then HSA.out.2.1 bB, HSA.out.2.2.below bB⟩
    replace hS : SdvAt wB B (some ⟨t, 0, none⟩) rc' ∧ True := ⟨hS.1.below bB, trivial⟩
    clear bB HSGA
    go_wp2
    refine ⟨rfl, hK _ _ hS ?_⟩
    clear hK K
    refine MixH.takes [false, false, false, false, true] 6 (by kernel_rfl) (by kernel_rfl) (by decide) (by kernel_rfl) hS (fun K hK => ?_)
    simp only [Mix.pick]
    repeat (go_big_quiet_step (fail))
    refine wpQuiet_nil (hK _ ?_)
    clear hK K
    refine MixH.takes [false, false, false, false, false, true, true] 4 (by kernel_rfl) (by kernel_rfl) (by decide) (by kernel_rfl) hS (fun K hK => ?_)
    simp only [Mix.pick]
    repeat (go_big_quiet_step (fail))
    refine wpQuiet_nil (hK _ ?_)
    clear hK K
    refine MixH.one [false, false, false, false, false, false, false, true] 3 7 _ rfl rfl (by kernel_rfl) (by kernel_rfl) (fun K hK => ?_)
    simp only [Mix.pick]
    obtain ⟨l1, l2, hl1⟩ := IL.form HIL.out.1
    obtain ⟨o1, o2, ho1⟩ := IL.form HIL.out.2
    have QS : Hid _ := sameInts_any l1 o1 l2 o2 LL LL wB (LnAt.seg (il_ln (by rw [← hl1]; exact HIL.out.1))) (LnAt.seg (il_ln (by rw [← ho1]; exact HIL.out.2))) (by have := HLN.out.2; omega)
    rw [← hl1, ← ho1, decide_eq_true (rfl : LL = LL)] at QS
    clear hl1 ho1
    go_wp2_with fail
    refine Calls.mono QS.out ?_
    rintro r wC ⟨rfl, bC⟩
    replace HSA : Hid (SS W t M c ET rc' RT wC ∧ Ch (CB t M E) w wC ∧ SdvAt wC (B + 2) none rcz) := ⟨HSA.out.1.below bC, ch_then HSA.out.2.1 bC, HSA.out.2.2.below bC⟩
    replace hS : SdvAt wC B (some ⟨t, 0, none⟩) rc' ∧ True := ⟨hS.1.below bC, trivial⟩
    clear bC QS HIL
    go_wp2
    refine ⟨rfl, hK _ _ hS ?_⟩
    clear hK K
    refine MixH.takes [false, false, false, false, false, false, false, false, true] 2 (by kernel_rfl) (by kernel_rfl) (by decide) (by kernel_rfl) hS (fun K hK => ?_)
    simp only [Mix.pick]
    repeat (go_big_quiet_step (fail))
    refine wpQuiet_nil (hK _ ?_)
    clear hK K
    refine MixH.one [false, false, false, false, false, false, false, false, false, true] 1 9 _ rfl rfl (by kernel_rfl) (by kernel_rfl) (fun K hK => ?_)
    simp only [Mix.pick]
    refine wpList_store_sdv (.tmp 4) (.tmp 135) rfl rfl (B + 2) none rcz (some ⟨t, 0, none⟩) rc' rfl rfl HSA.out.2.2 rfl ?_
    intro wE hE kE
    have HE : Hid (SdvAt wE (B + 2) (some ⟨t, 0, none⟩) rc' ∧ SS W t M c ET rc' RT wE ∧ Ch (CB t M E) w wE) := ⟨hE, HSA.out.1.ch kE (fun q hq e => sb_ne HB3.out (HSB.out q hq) (by omega) (by omega) e) (fun q e => by have e' : q = B + 2 := e; have := HSA.out.1.l.bel.size; have := HWB.out; have := HOX.out; omega), HSA.out.2.1.trans kE (fun q hq e => by have e' : q = B + 2 := e; have := HOX.out; omega)⟩
    replace hS : SdvAt wE B (some ⟨t, 0, none⟩) rc' ∧ (True) := ⟨hS.1.ch kE (by omega), trivial⟩
    clear hE kE HSA
    go_wp2
    refine ⟨rfl, hK _ _ hS ?_⟩
    clear hK K
    refine MixH.takes [false, false, false, false, false, false, false, false, false, false, true] 0 (by kernel_rfl) (by kernel_rfl) (by decide) (by kernel_rfl) hS (fun K hK => ?_)
    simp only [Mix.pick]
    repeat (go_big_quiet_step (fail))
    refine wpQuiet_nil (hK _ ?_)
    clear hK K
    refine MixH.done (by kernel_rfl) ?_
    clear hS
    go_wp2_with fail
    refine bodyPost_ret (results_sdv_tmp rfl _ _ (B + 2) _ _ rfl HE.out.1) rfl ?_
    exact ⟨ET, rc', RT, rfl, ⟨fun h => by have := HKD.out; omega, fun h => by have := HKD.out; omega, fun _ => HRW.out, fun _ _ h => absurd HKD.out h⟩, HE.out.2.1, HE.out.2.2, fun q hq => (HSB.out q hq).imp id (fun g => by have := HOX.out; omega)⟩
  have q3 : (kd == 3) = false := by simpa using h3
  by_cases h4 : kd = 4
  · have q4 : (kd == 4) = true := by simpa using h4
    have HKD : Hid (o.kd = 4) := by show _ = _; rw [HKE.out]; exact h4
    have q1 : (kd == 1) = false := by rw [h4]; rfl
    have q2 : (kd == 2) = false := by rw [h4]; rfl
    have q3 : (kd == 3) = false := by rw [h4]; rfl
    clear h4
    obtain ⟨nb, hnb⟩ : ∃ nb, nb = gtN E o.k := ⟨_, rfl⟩
    obtain ⟨fb, hfb⟩ : ∃ fb, fb = (fE E o.k).isSome := ⟨_, rfl⟩
    have QW : Hid _ := HSY.out.get o.k HOK.out.k
    rw [← hnb, ← hfb] at QW
    have QRA : Hid (∀ A, SS W t M c E rc R A → Calls Try.prog 76 #[.agg (rcC rc), .int .i64 o.k.pt, .agg (ipCells o.k.V o.k.x)] A fun r w' => r = .returned (.tuple #[.agg (nbC nb), .bool fb]) ∧ SS W t M c E rc R w' ∧ Below A.heap.size A w') := fun A hA => by rw [hnb, hfb]; exact hA.rget o.k
    clear hnb hfb
    go_wp2_with (first | (refine wpList_mid_ipr (.tmp 151) rfl (B + 1) 3 o.k.V o.k.x rfl HY.out.o.ip rfl ?_))
    refine Calls.mono QW.out ?_
    rintro r w1 ⟨rfl, hSS, b1⟩
    have H1 : Hid (ST w B t M E o rc w1 ∧ SS W t M c E rc R w1) := ⟨HY.out.below HB2.out b1, hSS⟩
    clear hSS b1 QW HY HSY c0 c2 c26 b0
    obtain ⟨D1, hD1⟩ : ∃ D, D = w1.heap.size := ⟨_, rfl⟩
    obtain ⟨Z1, hZ1⟩ : ∃ Z, Z = w1.alloc (.cells (nbC nz) 48) := ⟨_, rfl⟩
    have bZ1 : Below w1.heap.size w1 Z1 := by rw [hZ1]; exact (Below.refl _ _).alloc (Nat.le_refl _) _
    have nZ1 := nbr_new w1 nz
    rw [← hZ1, ← hD1] at nZ1
    have sZ1 : Z1.heap.size = D1 + 1 := by rw [hZ1, World.size_alloc, hD1]
    have HZ1 : Hid (w1.heap.size = D1 ∧ w1.alloc (.cells (nbC nz) 48) = Z1) := ⟨hD1.symm, hZ1.symm⟩
    have HZ : Hid (NbrAt Z1 D1 nz ∧ Below w1.heap.size w1 Z1) := ⟨nZ1, bZ1⟩
    clear hD1 hZ1 bZ1 nZ1 sZ1
    go_wp2_with (first | (refine wpList_alloc_nbr rfl rfl ?_; rw [HZ1.out.1, HZ1.out.2]; simp only [Act.put, List.setIfInBounds_toArray, List.set_cons_succ, List.set_cons_zero]) | (refine wpList_store_nbr (.tmp 23) (.tmp 154) rfl rfl D1 nz nb rfl rfl HZ.out.1 rfl ?_))
    intro w2 h2 k2
    have b2 : Below w1.heap.size w1 w2 := HZ.out.2.trans (k2.below (fun q e => by have e' : q = D1 := e; have := HZ1.out.1; omega) HZ.out.2.size)
    have H2 : Hid (ST w B t M E o rc w2 ∧ SS W t M c E rc R w2 ∧ NbrAt w2 D1 nb ∧ B + 3 ≤ D1) := ⟨H1.out.1.below HB2.out b2, H1.out.2.below b2, h2, by have := H1.out.1.sz; have := HZ1.out.1; omega⟩
    clear h2 k2 b2 HZ HZ1 H1
    have e2 : w2.cell? ⟨B + 1, 2, none⟩ = some (.int .i64 o.k.pt) := H2.out.1.o.cell 2
    have QR : Hid _ := QRA.out w2 H2.out.2.1
    go_wp2_with (first | (refine wpList_mid_rch (.tmp 157) rfl B 1 rc rfl H2.out.1.s.rc rfl ?_) | (refine wpList_mid_ipr (.tmp 161) rfl (B + 1) 3 o.k.V o.k.x rfl H2.out.1.o.ip rfl ?_))
    refine Calls.mono QR.out ?_
    rintro r w3 ⟨rfl, hSS, b3⟩
    have H3 : Hid (ST w B t M E o rc w3 ∧ SS W t M c E rc R w3 ∧ NbrAt w3 D1 nb ∧ B + 3 ≤ D1) := ⟨H2.out.1.below HB2.out b3, hSS, H2.out.2.2.1.below b3, H2.out.2.2.2⟩
    clear hSS b3 QR H2 e2
    obtain ⟨D2, hD2⟩ : ∃ D, D = w3.heap.size := ⟨_, rfl⟩
    obtain ⟨Z2, hZ2⟩ : ∃ Z, Z = w3.alloc (.cells (nbC nz) 48) := ⟨_, rfl⟩
    have bZ2 : Below w3.heap.size w3 Z2 := by rw [hZ2]; exact (Below.refl _ _).alloc (Nat.le_refl _) _
    have nZ2 := nbr_new w3 nz
    rw [← hZ2, ← hD2] at nZ2
    have sZ2 : Z2.heap.size = D2 + 1 := by rw [hZ2, World.size_alloc, hD2]
    have HZ2 : Hid (w3.heap.size = D2 ∧ w3.alloc (.cells (nbC nz) 48) = Z2) := ⟨hD2.symm, hZ2.symm⟩
    have HZ : Hid (NbrAt Z2 D2 nz ∧ Below w3.heap.size w3 Z2) := ⟨nZ2, bZ2⟩
    clear hD2 hZ2 bZ2 nZ2 sZ2
    go_wp2_with (first | (refine wpList_alloc_nbr rfl rfl ?_; rw [HZ2.out.1, HZ2.out.2]; simp only [Act.put, List.setIfInBounds_toArray, List.set_cons_succ, List.set_cons_zero]) | (refine wpList_store_nbr (.tmp 25) (.tmp 164) rfl rfl D2 nz nb rfl rfl HZ.out.1 rfl ?_))
    intro w6 h6 k6
    have b6 : Below w3.heap.size w3 w6 := HZ.out.2.trans (k6.below (fun q e => by have e' : q = D2 := e; have := HZ2.out.1; omega) HZ.out.2.size)
    have HS : Hid (SS W t M c E rc R w6 ∧ Ch (CB t M E) w w6 ∧ SdvAt w6 (B + 2) none rcz) := ⟨H3.out.2.1.below b6, ch_then H3.out.1.ch b6, H3.out.1.r.below b6⟩
    have H0 : Hid (SdvAt w6 B (some ⟨t, 0, none⟩) rc ∧ NbrAt w6 D1 nb ∧ NbrAt w6 D2 nb) := ⟨H3.out.1.s.below b6, H3.out.2.2.1.below b6, h6⟩
    have HDD : Hid (B + 3 ≤ D1 ∧ B + 3 ≤ D2) := ⟨H3.out.2.2.2, by have := H3.out.1.sz; have := HZ2.out.1; omega⟩
    have HSB : Hid (∀ q, SB t M E rc R q → SB t M E rc R q ∨ B + 3 ≤ q) := fun q hq => .inl hq
    clear h6 k6 b6 H3 HZ HZ2 QRA
    go_upto_region 20 with fail
    refine MixH.start (fun A => SdvAt A B (some ⟨t, 0, none⟩) rc ∧ (NbrAt A D1 nb ∧ NbrAt A D2 nb)) (by kernel_rfl) ?_
    obtain ⟨wA, hwA⟩ : ∃ wA, wA = w6.drew := ⟨_, rfl⟩
    have bdr : Below w6.heap.size w6 wA := by rw [hwA]; exact (Below.refl _ _).drew
    have HSA : Hid (SS W t M c E rc R wA ∧ Ch (CB t M E) w wA ∧ SdvAt wA (B + 2) none rcz) := ⟨HS.out.1.below bdr, ch_then HS.out.2.1 bdr, HS.out.2.2.below bdr⟩
    have hS : SdvAt wA B (some ⟨t, 0, none⟩) rc ∧ (NbrAt wA D1 nb ∧ NbrAt wA D2 nb) := ⟨H0.out.1.below bdr, H0.out.2.1.below bdr, H0.out.2.2.below bdr⟩
    rw [← hwA]
    clear hwA bdr HS H0
    refine MixH.take 10 0 _ (.agg (svC (some ⟨t, 0, none⟩) rc)) rfl (by kernel_rfl) (by kernel_rfl) (by kernel_rfl) (by kernel_rfl) (yields_sdv (.tmp 2) rfl B 0 (some ⟨t, 0, none⟩) rc rfl rfl (fun A hA => SdvAt.all hA.1)) hS (fun a' ha => ?_)
    simp only [Act.put, List.setIfInBounds_toArray, List.set_cons_succ, List.set_cons_zero] at ha
    subst ha
    refine MixH.take 9 1 _ (.agg (nbC nb)) rfl (by kernel_rfl) (by kernel_rfl) (by kernel_rfl) (by kernel_rfl) (yields_nbr (.tmp 23) rfl D1 0 nb rfl rfl (fun A hA => NbrAt.all hA.2.1)) hS (fun a' ha => ?_)
    simp only [Act.put, List.setIfInBounds_toArray, List.set_cons_succ, List.set_cons_zero] at ha
    subst ha
    refine MixH.take 8 2 _ (.agg (nbC nb)) rfl (by kernel_rfl) (by kernel_rfl) (by kernel_rfl) (by kernel_rfl) (yields_nbr (.tmp 25) rfl D2 0 nb rfl rfl (fun A hA => NbrAt.all hA.2.2)) hS (fun a' ha => ?_)
    simp only [Act.put, List.setIfInBounds_toArray, List.set_cons_succ, List.set_cons_zero] at ha
    subst ha
    refine MixH.take 7 3 _ (.bool true) rfl (by kernel_rfl) (by kernel_rfl) (by kernel_rfl) (by kernel_rfl) (yields_eql_nbr (.tmp 167) (.tmp 168) rfl nb rfl rfl rfl) hS (fun a' ha => ?_)
    simp only [Act.put, List.setIfInBounds_toArray, List.set_cons_succ, List.set_cons_zero] at ha
    subst ha
    refine MixH.takes [false, false, false, false, true] 6 (by kernel_rfl) (by kernel_rfl) (by decide) (by kernel_rfl) hS (fun K hK => ?_)
    simp only [Mix.pick]
    repeat (go_big_quiet_step (fail))
    refine wpQuiet_nil (hK _ ?_)
    clear hK K
    refine MixH.takes [false, false, false, false, false, true, true] 4 (by kernel_rfl) (by kernel_rfl) (by decide) (by kernel_rfl) hS (fun K hK => ?_)
    simp only [Mix.pick]
    repeat (go_big_quiet_step (fail))
    refine wpQuiet_nil (hK _ ?_)
    clear hK K
    refine MixH.takes [false, false, false, false, false, false, false, true] 3 (by kernel_rfl) (by kernel_rfl) (by decide) (by kernel_rfl) hS (fun K hK => ?_)
    simp only [Mix.pick]
    repeat (go_big_quiet_step (fail))
    refine wpQuiet_nil (hK _ ?_)
    clear hK K
    refine MixH.takes [false, false, false, false, false, false, false, false, true] 2 (by kernel_rfl) (by kernel_rfl) (by decide) (by kernel_rfl) hS (fun K hK => ?_)
    simp only [Mix.pick]
    repeat (go_big_quiet_step (fail))
    refine wpQuiet_nil (hK _ ?_)
    clear hK K
    refine MixH.one [false, false, false, false, false, false, false, false, false, true] 1 9 _ rfl rfl (by kernel_rfl) (by kernel_rfl) (fun K hK => ?_)
    simp only [Mix.pick]
    refine wpList_store_sdv (.tmp 4) (.tmp 166) rfl rfl (B + 2) none rcz (some ⟨t, 0, none⟩) rc rfl rfl HSA.out.2.2 rfl ?_
    intro wE hE kE
    have HE : Hid (SdvAt wE (B + 2) (some ⟨t, 0, none⟩) rc ∧ SS W t M c E rc R wE ∧ Ch (CB t M E) w wE) := ⟨hE, HSA.out.1.ch kE (fun q hq e => sb_ne HB3.out (HSB.out q hq) (by omega) (by omega) e) (fun q e => by have e' : q = B + 2 := e; have := HSA.out.1.l.bel.size; have := HWB.out; have := HOX.out; omega), HSA.out.2.1.trans kE (fun q hq e => by have e' : q = B + 2 := e; have := HOX.out; omega)⟩
    replace hS : SdvAt wE B (some ⟨t, 0, none⟩) rc ∧ (NbrAt wE D1 nb ∧ NbrAt wE D2 nb) := ⟨hS.1.ch kE (by omega), hS.2.1.ch kE (by have := HDD.out; omega), hS.2.2.ch kE (by have := HDD.out; omega)⟩
    clear hE kE HSA
    go_wp2
    refine ⟨rfl, hK _ _ hS ?_⟩
    clear hK K
    refine MixH.takes [false, false, false, false, false, false, false, false, false, false, true] 0 (by kernel_rfl) (by kernel_rfl) (by decide) (by kernel_rfl) hS (fun K hK => ?_)
    simp only [Mix.pick]
    repeat (go_big_quiet_step (fail))
    refine wpQuiet_nil (hK _ ?_)
    clear hK K
    refine MixH.done (by kernel_rfl) ?_
    clear hS
    go_wp2_with fail
    refine bodyPost_ret (results_sdv_tmp rfl _ _ (B + 2) _ _ rfl HE.out.1) rfl ?_
    exact ⟨E, rc, R, rfl, ⟨fun h => by have := HKD.out; omega, fun h => by have := HKD.out; omega, fun h => by have := HKD.out; omega, fun _ _ _ => rfl⟩, HE.out.2.1, HE.out.2.2, fun q hq => (HSB.out q hq).imp id (fun g => by have := HOX.out; omega)⟩
  have q4 : (kd == 4) = false := by simpa using h4
  by_cases h5 : kd = 5
  · have q5 : (kd == 5) = true := by simpa using h5
    have HKD : Hid (o.kd = 5) := by show _ = _; rw [HKE.out]; exact h5
    have q1 : (kd == 1) = false := by rw [h5]; rfl
    have q2 : (kd == 2) = false := by rw [h5]; rfl
    have q3 : (kd == 3) = false := by rw [h5]; rfl
    have q4 : (kd == 4) = false := by rw [h5]; rfl
    clear h5
    have HS : Hid (SS W t M c E rc R Y ∧ Ch (CB t M E) w Y ∧ SdvAt Y (B + 2) none rcz) := ⟨HSY.out, HY.out.ch, HY.out.r⟩
    have H0 : Hid (SdvAt Y B (some ⟨t, 0, none⟩) rc ∧ True) := ⟨HY.out.s, trivial⟩
    have HSB : Hid (∀ q, SB t M E rc R q → SB t M E rc R q ∨ B + 3 ≤ q) := fun q hq => .inl hq
    have HLN : Hid ((R.map (fun r => r.n.nb)).length ≤ 100000) := by have h3 := HSY.out.n; have h4 := HSY.out.r.len; show _ ≤ _; rw [List.length_map]; omega
    obtain ⟨NN, hNN⟩ : ∃ NN, NN = R.map (fun r => r.n.nb) := ⟨_, rfl⟩
    rw [← hNN] at HLN
    have HNN : Hid (R.map (fun r => r.n.nb) = NN) := hNN.symm
    clear HY HSY c0 c2 c26 hNN
    go_upto_region 22 with fail
    clear b0
    refine MixH.start (fun A => SdvAt A B (some ⟨t, 0, none⟩) rc ∧ (True)) (by kernel_rfl) ?_
    obtain ⟨wA, hwA⟩ : ∃ wA, wA = Y.drew := ⟨_, rfl⟩
    have bdr : Below Y.heap.size Y wA := by rw [hwA]; exact (Below.refl _ _).drew
    have HSA : Hid (SS W t M c E rc R wA ∧ Ch (CB t M E) w wA ∧ SdvAt wA (B + 2) none rcz) := ⟨HS.out.1.below bdr, ch_then HS.out.2.1 bdr, HS.out.2.2.below bdr⟩
    have hS : SdvAt wA B (some ⟨t, 0, none⟩) rc ∧ (True) := ⟨H0.out.1.below bdr, trivial⟩
    rw [← hwA]
    clear hwA bdr HS H0
    refine MixH.take 9 0 _ (.agg (svC (some ⟨t, 0, none⟩) rc)) rfl (by kernel_rfl) (by kernel_rfl) (by kernel_rfl) (by kernel_rfl) (yields_sdv (.tmp 2) rfl B 0 (some ⟨t, 0, none⟩) rc rfl rfl (fun A hA => SdvAt.all hA.1)) hS (fun a' ha => ?_)
    simp only [Act.put, List.setIfInBounds_toArray, List.set_cons_succ, List.set_cons_zero] at ha
    subst ha
    refine MixH.takes [false, true, false, false, true] 7 (by kernel_rfl) (by kernel_rfl) (by decide) (by kernel_rfl) hS (fun K hK => ?_)
    simp only [Mix.pick]
    repeat (go_big_quiet_step (fail))
    refine wpQuiet_nil (hK _ ?_)
    clear hK K
    refine MixH.take 6 2 _ (.pointer (some ⟨t, 0, none⟩)) rfl (by kernel_rfl) (by kernel_rfl) (by kernel_rfl) (by kernel_rfl) (yields_cptr (.tmp 178) rfl ⟨B, 0, none⟩ (.pointer (some ⟨t, 0, none⟩)) rfl rfl (fun A hA => SdvAt.cell hA.1 0)) hS (fun a' ha => ?_)
    simp only [Act.put, List.setIfInBounds_toArray, List.set_cons_succ, List.set_cons_zero] at ha
    subst ha
    refine MixH.take 5 5 _ (.agg (rcC rc)) rfl (by kernel_rfl) (by kernel_rfl) (by kernel_rfl) (by kernel_rfl) (yields_rch (.tmp 181) rfl B 1 rc rfl rfl (fun A hA => SdvAt.rc hA.1)) hS (fun a' ha => ?_)
    simp only [Act.put, List.setIfInBounds_toArray, List.set_cons_succ, List.set_cons_zero] at ha
    subst ha
    refine MixH.one [false, false, false, true] 4 3 _ rfl rfl (by kernel_rfl) (by kernel_rfl) (fun K hK => ?_)
    simp only [Mix.pick]
    have QW : Hid _ := HSA.out.1.all
    rw [HNN.out] at QW
    go_wp2_with fail
    refine Calls.mono QW.out ?_
    rintro r wB ⟨v1, rfl, hN1, hSS, bB⟩
    have HN1 : Hid (NL wB wA.heap.size v1 NN) := hN1
    replace HSA : Hid (SS W t M c E rc R wB ∧ Ch (CB t M E) w wB ∧ SdvAt wB (B + 2) none rcz) := ⟨hSS, ch_then HSA.out.2.1 bB, HSA.out.2.2.below bB⟩
    replace hS : SdvAt wB B (some ⟨t, 0, none⟩) rc ∧ True := ⟨hS.1.below bB, trivial⟩
    clear bB hSS hN1 QW
    go_wp2
    refine ⟨rfl, hK _ _ hS ?_⟩
    clear hK K
    refine MixH.one [false, false, false, false, false, false, true] 3 6 _ rfl rfl (by kernel_rfl) (by kernel_rfl) (fun K hK => ?_)
    simp only [Mix.pick]
    have QW : Hid _ := HSA.out.1.rall
    rw [HNN.out] at QW
    go_wp2_with fail
    refine Calls.mono QW.out ?_
    rintro r wC ⟨v2, rfl, hN2, hSS, bC⟩
    have HN2 : Hid (NL wC wA.heap.size v1 NN ∧ NL wC wB.heap.size v2 NN) := ⟨HN1.out.below bC, hN2⟩
    replace HSA : Hid (SS W t M c E rc R wC ∧ Ch (CB t M E) w wC ∧ SdvAt wC (B + 2) none rcz) := ⟨hSS, ch_then HSA.out.2.1 bC, HSA.out.2.2.below bC⟩
    replace hS : SdvAt wC B (some ⟨t, 0, none⟩) rc ∧ True := ⟨hS.1.below bC, trivial⟩
    clear bC hSS hN2 QW HN1
    go_wp2
    refine ⟨rfl, hK _ _ hS ?_⟩
    clear hK K
    refine MixH.one [false, false, false, false, false, false, false, true] 2 7 _ rfl rfl (by kernel_rfl) (by kernel_rfl) (fun K hK => ?_)
    simp only [Mix.pick]
    go_wp2_with fail
    refine Calls.mono (sameAll_true v1 v2 NN wA.heap.size wB.heap.size wC HN2.out.1 HN2.out.2 HLN.out) ?_
    rintro r wD ⟨rfl, bD⟩
    replace HSA : Hid (SS W t M c E rc R wD ∧ Ch (CB t M E) w wD ∧ SdvAt wD (B + 2) none rcz) := ⟨HSA.out.1.below bD, ch_then HSA.out.2.1 bD, HSA.out.2.2.below bD⟩
    replace hS : SdvAt wD B (some ⟨t, 0, none⟩) rc ∧ True := ⟨hS.1.below bD, trivial⟩
    clear bD HN2
    go_wp2
    refine ⟨rfl, hK _ _ hS ?_⟩
    clear hK K
    refine MixH.one [false, false, false, false, false, false, false, false, true] 1 8 _ rfl rfl (by kernel_rfl) (by kernel_rfl) (fun K hK => ?_)
    simp only [Mix.pick]
    refine wpList_store_sdv (.tmp 4) (.tmp 177) rfl rfl (B + 2) none rcz (some ⟨t, 0, none⟩) rc rfl rfl HSA.out.2.2 rfl ?_
    intro wE hE kE
    have HE : Hid (SdvAt wE (B + 2) (some ⟨t, 0, none⟩) rc ∧ SS W t M c E rc R wE ∧ Ch (CB t M E) w wE) := ⟨hE, HSA.out.1.ch kE (fun q hq e => sb_ne HB3.out (HSB.out q hq) (by omega) (by omega) e) (fun q e => by have e' : q = B + 2 := e; have := HSA.out.1.l.bel.size; have := HWB.out; have := HOX.out; omega), HSA.out.2.1.trans kE (fun q hq e => by have e' : q = B + 2 := e; have := HOX.out; omega)⟩
    replace hS : SdvAt wE B (some ⟨t, 0, none⟩) rc ∧ (True) := ⟨hS.1.ch kE (by omega), trivial⟩
    clear hE kE HSA
    go_wp2
    refine ⟨rfl, hK _ _ hS ?_⟩
    clear hK K
    refine MixH.takes [false, false, false, false, false, false, false, false, false, true] 0 (by kernel_rfl) (by kernel_rfl) (by decide) (by kernel_rfl) hS (fun K hK => ?_)
    simp only [Mix.pick]
    repeat (go_big_quiet_step (fail))
    refine wpQuiet_nil (hK _ ?_)
    clear hK K
    refine MixH.done (by kernel_rfl) ?_
    clear hS
    go_wp2_with fail
    refine bodyPost_ret (results_sdv_tmp rfl _ _ (B + 2) _ _ rfl HE.out.1) rfl ?_
    exact ⟨E, rc, R, rfl, ⟨fun h => by have := HKD.out; omega, fun h => by have := HKD.out; omega, fun h => by have := HKD.out; omega, fun _ _ _ => rfl⟩, HE.out.2.1, HE.out.2.2, fun q hq => (HSB.out q hq).imp id (fun g => by have := HOX.out; omega)⟩
  have q5 : (kd == 5) = false := by simpa using h5
  by_cases h6 : kd = 6
  · have q6 : (kd == 6) = true := by simpa using h6
    have HKD : Hid (o.kd = 6) := by show _ = _; rw [HKE.out]; exact h6
    have q1 : (kd == 1) = false := by rw [h6]; rfl
    have q2 : (kd == 2) = false := by rw [h6]; rfl
    have q3 : (kd == 3) = false := by rw [h6]; rfl
    have q4 : (kd == 4) = false := by rw [h6]; rfl
    have q5 : (kd == 5) = false := by rw [h6]; rfl
    clear h6
    have HS : Hid (SS W t M c E rc R Y ∧ Ch (CB t M E) w Y ∧ SdvAt Y (B + 2) none rcz) := ⟨HSY.out, HY.out.ch, HY.out.r⟩
    have H0 : Hid (SdvAt Y B (some ⟨t, 0, none⟩) rc ∧ True) := ⟨HY.out.s, trivial⟩
    have HSB : Hid (∀ q, SB t M E rc R q → SB t M E rc R q ∨ B + 3 ≤ q) := fun q hq => .inl hq
    obtain ⟨NN, hNN⟩ : ∃ NN : Int, NN = ((rwN R : Nat) : Int) := ⟨_, rfl⟩
    have HNN : Hid (((rwN R : Nat) : Int) = NN) := hNN.symm
    clear HY HSY c0 c2 c26 hNN
    go_upto_region 24 with fail
    clear b0
    refine MixH.start (fun A => SdvAt A B (some ⟨t, 0, none⟩) rc ∧ (True)) (by kernel_rfl) ?_
    obtain ⟨wA, hwA⟩ : ∃ wA, wA = Y.drew := ⟨_, rfl⟩
    have bdr : Below Y.heap.size Y wA := by rw [hwA]; exact (Below.refl _ _).drew
    have HSA : Hid (SS W t M c E rc R wA ∧ Ch (CB t M E) w wA ∧ SdvAt wA (B + 2) none rcz) := ⟨HS.out.1.below bdr, ch_then HS.out.2.1 bdr, HS.out.2.2.below bdr⟩
    have hS : SdvAt wA B (some ⟨t, 0, none⟩) rc ∧ (True) := ⟨H0.out.1.below bdr, trivial⟩
    rw [← hwA]
    clear hwA bdr HS H0
    refine MixH.take 9 0 _ (.agg (svC (some ⟨t, 0, none⟩) rc)) rfl (by kernel_rfl) (by kernel_rfl) (by kernel_rfl) (by kernel_rfl) (yields_sdv (.tmp 2) rfl B 0 (some ⟨t, 0, none⟩) rc rfl rfl (fun A hA => SdvAt.all hA.1)) hS (fun a' ha => ?_)
    simp only [Act.put, List.setIfInBounds_toArray, List.set_cons_succ, List.set_cons_zero] at ha
    subst ha
    refine MixH.takes [false, true, false, false, true] 7 (by kernel_rfl) (by kernel_rfl) (by decide) (by kernel_rfl) hS (fun K hK => ?_)
    simp only [Mix.pick]
    repeat (go_big_quiet_step (fail))
    refine wpQuiet_nil (hK _ ?_)
    clear hK K
    refine MixH.take 6 2 _ (.pointer (some ⟨t, 0, none⟩)) rfl (by kernel_rfl) (by kernel_rfl) (by kernel_rfl) (by kernel_rfl) (yields_cptr (.tmp 188) rfl ⟨B, 0, none⟩ (.pointer (some ⟨t, 0, none⟩)) rfl rfl (fun A hA => SdvAt.cell hA.1 0)) hS (fun a' ha => ?_)
    simp only [Act.put, List.setIfInBounds_toArray, List.set_cons_succ, List.set_cons_zero] at ha
    subst ha
    refine MixH.take 5 5 _ (.agg (rcC rc)) rfl (by kernel_rfl) (by kernel_rfl) (by kernel_rfl) (by kernel_rfl) (yields_rch (.tmp 191) rfl B 1 rc rfl rfl (fun A hA => SdvAt.rc hA.1)) hS (fun a' ha => ?_)
    simp only [Act.put, List.setIfInBounds_toArray, List.set_cons_succ, List.set_cons_zero] at ha
    subst ha
    refine MixH.one [false, false, false, true] 4 3 _ rfl rfl (by kernel_rfl) (by kernel_rfl) (fun K hK => ?_)
    simp only [Mix.pick]
    have QW : Hid _ := HSA.out.1.waiting
    rw [HNN.out] at QW
    go_wp2_with fail
    refine Calls.mono QW.out ?_
    rintro r wB ⟨rfl, hSS, bB⟩
    replace HSA : Hid (SS W t M c E rc R wB ∧ Ch (CB t M E) w wB ∧ SdvAt wB (B + 2) none rcz) := ⟨hSS, ch_then HSA.out.2.1 bB, HSA.out.2.2.below bB⟩
    replace hS : SdvAt wB B (some ⟨t, 0, none⟩) rc ∧ True := ⟨hS.1.below bB, trivial⟩
    clear bB hSS QW
    go_wp2
    refine ⟨rfl, hK _ _ hS ?_⟩
    clear hK K
    refine MixH.one [false, false, false, false, false, false, true] 3 6 _ rfl rfl (by kernel_rfl) (by kernel_rfl) (fun K hK => ?_)
    simp only [Mix.pick]
    have QW : Hid _ := HSA.out.1.rwaiting
    rw [HNN.out] at QW
    go_wp2_with fail
    refine Calls.mono QW.out ?_
    rintro r wC ⟨rfl, hSS, bB⟩
    replace HSA : Hid (SS W t M c E rc R wC ∧ Ch (CB t M E) w wC ∧ SdvAt wC (B + 2) none rcz) := ⟨hSS, ch_then HSA.out.2.1 bB, HSA.out.2.2.below bB⟩
    replace hS : SdvAt wC B (some ⟨t, 0, none⟩) rc ∧ True := ⟨hS.1.below bB, trivial⟩
    clear bB hSS QW
    go_wp2
    refine ⟨rfl, hK _ _ hS ?_⟩
    clear hK K
    refine MixH.takes [false, false, false, false, false, false, false, true] 2 (by kernel_rfl) (by kernel_rfl) (by decide) (by kernel_rfl) hS (fun K hK => ?_)
    simp only [Mix.pick]
    repeat (go_big_quiet_step (fail))
    refine wpQuiet_nil (hK _ ?_)
    clear hK K
    refine MixH.one [false, false, false, false, false, false, false, false, true] 1 8 _ rfl rfl (by kernel_rfl) (by kernel_rfl) (fun K hK => ?_)
    simp only [Mix.pick]
    refine wpList_store_sdv (.tmp 4) (.tmp 187) rfl rfl (B + 2) none rcz (some ⟨t, 0, none⟩) rc rfl rfl HSA.out.2.2 rfl ?_
    intro wE hE kE
    have HE : Hid (SdvAt wE (B + 2) (some ⟨t, 0, none⟩) rc ∧ SS W t M c E rc R wE ∧ Ch (CB t M E) w wE) := ⟨hE, HSA.out.1.ch kE (fun q hq e => sb_ne HB3.out (HSB.out q hq) (by omega) (by omega) e) (fun q e => by have e' : q = B + 2 := e; have := HSA.out.1.l.bel.size; have := HWB.out; have := HOX.out; omega), HSA.out.2.1.trans kE (fun q hq e => by have e' : q = B + 2 := e; have := HOX.out; omega)⟩
    replace hS : SdvAt wE B (some ⟨t, 0, none⟩) rc ∧ (True) := ⟨hS.1.ch kE (by omega), trivial⟩
    clear hE kE HSA
    go_wp2
    refine ⟨rfl, hK _ _ hS ?_⟩
    clear hK K
    refine MixH.takes [false, false, false, false, false, false, false, false, false, true] 0 (by kernel_rfl) (by kernel_rfl) (by decide) (by kernel_rfl) hS (fun K hK => ?_)
    simp only [Mix.pick]
    repeat (go_big_quiet_step (fail))
    refine wpQuiet_nil (hK _ ?_)
    clear hK K
    refine MixH.done (by kernel_rfl) ?_
    clear hS
    go_wp2_with fail
    refine bodyPost_ret (results_sdv_tmp rfl _ _ (B + 2) _ _ rfl HE.out.1) rfl ?_
    exact ⟨E, rc, R, rfl, ⟨fun h => by have := HKD.out; omega, fun h => by have := HKD.out; omega, fun h => by have := HKD.out; omega, fun _ _ _ => rfl⟩, HE.out.2.1, HE.out.2.2, fun q hq => (HSB.out q hq).imp id (fun g => by have := HOX.out; omega)⟩
  have q6 : (kd == 6) = false := by simpa using h6
  have HKD : Hid (o.kd ≠ 1 ∧ o.kd ≠ 2 ∧ o.kd ≠ 3) := by rw [HKE.out]; exact ⟨h1, h2, h3⟩
  clear h1 h2 h3 h4 h5 h6
  have HSB : Hid (∀ q, SB t M E rc R q → SB t M E rc R q ∨ B + 3 ≤ q) := fun q hq => .inl hq
  go_wp2_with (first | (refine wpList_load_sdv (.tmp 2) rfl B (some ⟨t, 0, none⟩) rc rfl HY.out.s rfl ?_) | (refine wpList_store_sdv (.tmp 4) (.tmp 195) rfl rfl (B + 2) none rcz (some ⟨t, 0, none⟩) rc rfl rfl HY.out.r rfl ?_))
  intro wE hE kE
  have HE : Hid (SdvAt wE (B + 2) (some ⟨t, 0, none⟩) rc ∧ SS W t M c E rc R wE ∧ Ch (CB t M E) w wE) := ⟨hE, HSY.out.ch kE (fun q hq e => sb_ne HB3.out (HSB.out q hq) (by omega) (by omega) e) (fun q e => by have e' : q = B + 2 := e; have := HWB.out; omega), HY.out.ch.trans kE (fun q hq e => by have e' : q = B + 2 := e; have := HOX.out; omega)⟩
  clear hE kE HY HSY
  go_wp2_with fail
  refine bodyPost_ret (results_sdv_tmp rfl _ _ (B + 2) _ _ rfl HE.out.1) rfl ?_
  exact ⟨E, rc, R, rfl, ⟨fun h => absurd h HKD.out.1, fun h => absurd h HKD.out.2.1, fun h => absurd h HKD.out.2.2, fun _ _ _ => rfl⟩, HE.out.2.1, HE.out.2.2, fun q hq => .inl hq⟩
end Go.Proofs.Ytialefdojeddjaa
namespace Go.Proofs.Ytialefdojeddjaa
open Go.RowKit Go.Maps

def d2 : CF := ⟨2, 1, 1, 1, 1⟩
def cfD (c : CF) : CF := if cfB c then c else d2
theorem run_buildd2 (w : World) : (Instr.build 23 #[(0, .int .i64 2), (1, .int .i64 1), (2, .int .i64 1), (3, .int .i64 1), (4, .int .i64 1)]).run Try.prog w = .ok (.agg (cfC d2)) w := by kernel_rfl
theorem wpList_build_d2 {ops : Array Oper} {rest : List Oper} {o : Oper} {a : Act} {w : World} {Q : Exit → Act → World → Prop} (ho : o.op = .build 23 #[(0, .const (.int .i64 2)), (1, .const (.int .i64 1)), (2, .const (.int .i64 1)), (3, .const (.int .i64 1)), (4, .const (.int .i64 1))]) (hw : Region.wanted o (yielded ops a.tmps) = true)
    (h : wpList Try.prog ops Q rest (a.put o.dst (.agg (cfC d2))) w) : wpList Try.prog ops Q (o :: rest) a w := by
  refine wpList_step fun K hK => ?_
  rw [if_pos hw]
  have hrun : (execOp a.eval o).run Try.prog w = .ok (.value (.agg (cfC d2))) w := by
    unfold execOp
    simp only [ho, Sem.run_bind, List.map_toArray, List.map_cons, List.map_nil]
    have := run_buildd2 w
    simp only [show ∀ l, a.eval (.const l) = l from fun _ => rfl, this, Result.andThen_ok]
    rfl
  unfold Oper.wp
  rw [hrun]
  exact hK _ _ h
theorem run_buildsd (p : Option Addr) (r : RC) (w : World) : (Instr.build 89 #[(0, .pointer p), (1, .agg (rcC r))]).run Try.prog w = .ok (.agg (svC p r)) w := by kernel_rfl
theorem wpList_build_sd {ops : Array Oper} {rest : List Oper} {o : Oper} {a : Act} {w : World} {Q : Exit → Act → World → Prop} (x y : Operand) (ho : o.op = .build 89 #[(0, x), (1, y)]) (p : Option Addr) (r : RC) (hx : a.eval x = .pointer p) (hy : a.eval y = .agg (rcC r)) (hw : Region.wanted o (yielded ops a.tmps) = true)
    (h : wpList Try.prog ops Q rest (a.put o.dst (.agg (svC p r))) w) : wpList Try.prog ops Q (o :: rest) a w := by
  refine wpList_step fun K hK => ?_
  rw [if_pos hw]
  unfold Oper.wp execOp
  simp only [ho, Sem.run_bind, List.map_toArray, List.map_cons, List.map_nil, hx, hy, run_buildsd p r w, Result.andThen_ok]
  exact hK _ _ h
theorem yields_build_sd {ops : Array Oper} {S : World → Prop} {o : Oper} {a : Act} (x y : Operand) (ho : o.op = .build 89 #[(0, x), (1, y)]) (p : Option Addr) (r : RC) (hx : a.eval x = .pointer p) (hy : a.eval y = .agg (rcC r)) (hw : Region.wanted o (yielded ops a.tmps) = true) : YieldsIf Try.prog ops S o (.agg (svC p r)) a := by
  refine .inl ⟨hw, fun w _ => ?_⟩
  unfold execOp
  simp only [ho, Sem.run_bind, List.map_toArray, List.map_cons, List.map_nil, hx, hy, run_buildsd p r w, Result.andThen_ok]
  rfl
theorem rb_nil {c : CF} {q : Nat} (h : RB ⟨c, none, 0, 0⟩ [] q) : False := by
  rcases h with ⟨off, h0⟩ | ⟨r0, h0, _⟩
  · cases h0
  · cases h0
theorem ss_new {w A : World} {t M : Nat} {c : CF} (hc : CfOk c) (h : CA A t M c []) (b : Below w.heap.size w A) (h1 : w.heap.size ≤ t) (h2 : w.heap.size ≤ M) : SS w t M c [] ⟨c, none, 0, 0⟩ [] A := by
  have hl : LSt w t M c [] A := by
    refine ⟨h, hc, eok_nil hc, b, fun q hq => ?_⟩
    rcases hq with rfl | rfl | ⟨e0, he0, _⟩
    · exact h1
    · exact h2
    · cases he0
  have hr : RSt ⟨c, none, 0, 0⟩ [] A := ⟨.inl rfl, rfl, Nat.le_refl _, by show (0 : Nat) ≤ 9223372036854775807; omega, .inl ⟨rfl, rfl⟩, fun r hr => (by cases hr), fun q hq => (rb_nil hq).elim⟩
  exact ⟨hl, E2.nil, hr, rfl, Rep.nil, fun q hq => (rb_nil hq).elim, fun q hq => (rb_nil hq).elim⟩
set_option maxHeartbeats 6400000 in
set_option maxRecDepth 100000 in
theorem made_any (c : CF) (w : World) : Calls Try.prog 42 #[.agg (cfC c)] w fun r w' => ∃ t M, r = .returned (.tuple #[.agg (svC (some ⟨t, 0, none⟩) ⟨cfD c, none, 0, 0⟩), .bool true]) ∧ SS w t M (cfD c) [] ⟨cfD c, none, 0, 0⟩ [] w' := by
  have hb := cfg_new w c
  have bel : Below w.heap.size w (w.alloc (.cells (cfC c) 23)) := (Below.refl _ _).alloc (Nat.le_refl _) _
  obtain ⟨CX, hC⟩ : ∃ C, C = cfC c := ⟨_, rfl⟩
  obtain ⟨W, hW⟩ : ∃ W, W = w.alloc (.cells (cfC c) 23) := ⟨_, rfl⟩
  rw [← hW] at hb bel
  obtain ⟨B, hB⟩ : ∃ B, B = w.heap.size := ⟨_, rfl⟩
  rw [← hB] at hb
  rw [← hC] at hW ⊢
  have HOX : Hid (w.heap.size = B) := hB.symm
  have HSZ : Hid (W.heap.size = B + 1) := by show _ = _; rw [hW, World.size_alloc, hB]
  obtain ⟨Y, hY⟩ : ∃ Y, Y = W.alloc (.cells (svC none rcz) 89) := ⟨_, rfl⟩
  have bY : Below W.heap.size W Y := by rw [hY]; exact (Below.refl _ _).alloc (Nat.le_refl _) _
  have sY : Y.heap.size = B + 2 := by rw [hY, World.size_alloc, HSZ.out]
  have HY : Hid (CfgAt Y B c ∧ SdvAt Y (B + 1) none rcz ∧ Below w.heap.size w Y ∧ B + 2 ≤ Y.heap.size) := ⟨hb.below bY, by rw [hY, ← HSZ.out]; exact sdv_new W none rcz, bthen bel bY, by omega⟩
  have HWX : Hid (w.alloc (.cells CX 23) = W ∧ W.alloc (.cells (svC none rcz) 89) = Y) := ⟨hW.symm, hY.symm⟩
  clear hb hW hB hC bel hY bY sY
  have QN : Hid _ := new_any c Y
  have QD : Hid (∀ x, Calls Try.prog 44 #[.agg (cfC d2)] x _) := fun x => new_any d2 x
  go_enter Try.func42, Try.ntmps42
  go_upto_region 1 with (first | (rw [HOX.out, HWX.out.1]; refine wpList_alloc_sdv rfl rfl ?_; rw [HSZ.out, HWX.out.2]; simp only [Act.put, List.setIfInBounds_toArray, List.set_cons_succ, List.set_cons_zero]))
  go_wp2_with (first | (refine wpList_load_cfg (.tmp 1) rfl B c rfl HY.out.1 rfl ?_))
  refine Calls.mono QN.out ?_
  rintro e w1 ⟨b1, ⟨hcb, t, M, rfl, hca, ht, hM⟩ | ⟨hcb, rfl⟩⟩
  · have H1 : Hid (CfgAt w1 B c ∧ SdvAt w1 (B + 1) none rcz ∧ CA w1 t M c [] ∧ Below w.heap.size w w1 ∧ B + 2 ≤ w1.heap.size) := ⟨HY.out.1.below b1, HY.out.2.1.below b1, hca, bthen HY.out.2.2.1 b1, Nat.le_trans HY.out.2.2.2 b1.size⟩
    have HT : Hid (w.heap.size ≤ t ∧ w.heap.size ≤ M ∧ cfD c = c ∧ CfOk c ∧ B + 2 ≤ t ∧ B + 2 ≤ M) := by have := HY.out.2.2.1.size; have := HY.out.2.2.2; exact ⟨by omega, by omega, by unfold cfD; rw [if_pos hcb], cfB_ok hcb, by omega, by omega⟩
    have QR : Hid (Calls Try.prog 62 #[.agg (cfC c)] w1 fun e w' => e = .returned (.tuple #[.agg (rcC ⟨c, none, 0, 0⟩), .int .i64 0]) ∧ Below w1.heap.size w1 w') := by
      refine (rnew_any c w1).mono ?_
      rintro e w' ⟨rfl, b⟩
      rw [if_pos hcb, if_pos hcb]
      exact ⟨rfl, b⟩
    clear b1 hcb hca ht hM QN HY QD HWX HSZ
    go_wp2_with (first | (refine wpList_load_cfg (.tmp 1) rfl B c rfl H1.out.1 rfl ?_))
    refine Calls.mono QR.out ?_
    rintro e w2 ⟨rfl, b2⟩
    obtain ⟨D, hD⟩ : ∃ D, D = w2.heap.size := ⟨_, rfl⟩
    obtain ⟨Z, hZ⟩ : ∃ Z, Z = w2.alloc (.cells (rcC rcz) 87) := ⟨_, rfl⟩
    have bZ : Below w2.heap.size w2 Z := by rw [hZ]; exact (Below.refl _ _).alloc (Nat.le_refl _) _
    have HZ : Hid (RchAt Z D rcz ∧ SdvAt Z (B + 1) none rcz ∧ CA Z t M c [] ∧ Below w.heap.size w Z ∧ B + 2 ≤ D ∧ t < D ∧ M < D) := ⟨by rw [hZ, hD]; exact rch_new w2 rcz, (H1.out.2.1.below b2).below bZ, (H1.out.2.2.1.below b2).below bZ, bthen (bthen H1.out.2.2.2.1 b2) bZ, by rw [hD]; exact Nat.le_trans H1.out.2.2.2.2 b2.size, by rw [hD]; exact (H1.out.2.2.1.below b2).tlt t (.inl rfl), by rw [hD]; exact (H1.out.2.2.1.below b2).tlt M (.inr (.inl rfl))⟩
    have HZE : Hid (w2.heap.size = D ∧ w2.alloc (.cells (rcC rcz) 87) = Z) := ⟨hD.symm, hZ.symm⟩
    clear hD hZ bZ b2 QR H1
    go_wp2_with (first | (refine wpList_alloc_rch rfl rfl ?_; rw [HZE.out.1, HZE.out.2]; simp only [Act.put, List.setIfInBounds_toArray, List.set_cons_succ, List.set_cons_zero]) | (refine wpList_store_rch (.tmp 6) (.tmp 17) rfl rfl D rcz ⟨c, none, 0, 0⟩ rfl rfl HZ.out.1 rfl ?_))
    intro w3 h3 k3
    have H3 : Hid (RchAt w3 D ⟨c, none, 0, 0⟩ ∧ SdvAt w3 (B + 1) none rcz ∧ CA w3 t M c [] ∧ Below w.heap.size w w3) := ⟨h3, HZ.out.2.1.ch k3 (by have := HZ.out; omega), HZ.out.2.2.1.ch k3 (fun q hq e => by have e' : q = D := e; have := HZ.out; rcases hq with rfl | rfl | ⟨e0, he0, _⟩ <;> first | omega | cases he0), HZ.out.2.2.2.1.trans (k3.below (fun q e => by have e' : q = D := e; have := HZ.out; have := HOX.out; omega) HZ.out.2.2.2.1.size)⟩
    clear h3 k3 HZ HZE
    go_wp2_with fail
    refine Calls.mono (num_any 0 w3) ?_
    rintro e x ⟨rfl, rfl⟩
    go_wp2_with (first | (refine wpList_load_rch (.tmp 6) rfl D ⟨c, none, 0, 0⟩ rfl H3.out.1 rfl ?_) | (refine wpList_build_sd (.tmp 33) (.tmp 34) rfl (some ⟨t, 0, none⟩) ⟨c, none, 0, 0⟩ rfl rfl rfl ?_) | (refine wpList_store_sdv (.tmp 2) (.tmp 35) rfl rfl (B + 1) none rcz (some ⟨t, 0, none⟩) ⟨c, none, 0, 0⟩ rfl rfl H3.out.2.1 rfl ?_))
    intro w4 h4 k4
    have H4 : Hid (SdvAt w4 (B + 1) (some ⟨t, 0, none⟩) ⟨c, none, 0, 0⟩ ∧ CA w4 t M c [] ∧ Below w.heap.size w w4) := ⟨h4, H3.out.2.2.1.ch k4 (fun q hq e => by have e' : q = B + 1 := e; have := HT.out; rcases hq with rfl | rfl | ⟨e0, he0, _⟩ <;> first | omega | cases he0), H3.out.2.2.2.trans (k4.below (fun q e => by have e' : q = B + 1 := e; have := HOX.out; omega) H3.out.2.2.2.size)⟩
    clear h4 k4 H3
    go_wp2_with fail
    refine bodyPost_ret (results_sdv_tmp rfl _ _ (B + 1) _ _ rfl H4.out.1) rfl ?_
    rw [HT.out.2.2.1]
    exact ⟨t, M, rfl, ss_new HT.out.2.2.2.1 H4.out.2.1 H4.out.2.2 HT.out.1 HT.out.2.1⟩
  · have H1 : Hid (CfgAt w1 B c ∧ SdvAt w1 (B + 1) none rcz ∧ Below w.heap.size w w1 ∧ B + 2 ≤ w1.heap.size) := ⟨HY.out.1.below b1, HY.out.2.1.below b1, bthen HY.out.2.2.1 b1, Nat.le_trans HY.out.2.2.2 b1.size⟩
    have HR : Hid (cfD c = d2) := by show _ = _; unfold cfD; rw [if_neg (by rw [hcb]; decide)]
    have QR : Hid (Calls Try.prog 62 #[.agg (cfC c)] w1 fun e w' => e = .returned (.tuple #[.agg (rcC rcz), .int .i64 150]) ∧ Below w1.heap.size w1 w') := by
      refine (rnew_any c w1).mono ?_
      rintro e w' ⟨rfl, b⟩
      rw [if_neg (by rw [hcb]; decide), if_neg (by rw [hcb]; decide)]
      exact ⟨rfl, b⟩
    have QR2 : Hid (∀ x, Calls Try.prog 62 #[.agg (cfC d2)] x fun e w' => e = .returned (.tuple #[.agg (rcC ⟨d2, none, 0, 0⟩), .int .i64 0]) ∧ Below x.heap.size x w') := fun x => by
      refine (rnew_any d2 x).mono ?_
      rintro e w' ⟨rfl, b⟩
      exact ⟨rfl, b⟩
    clear b1 hcb QN HY HWX HSZ
    go_wp2_with (first | (refine wpList_load_cfg (.tmp 1) rfl B c rfl H1.out.1 rfl ?_))
    refine Calls.mono QR.out ?_
    rintro e w2 ⟨rfl, b2⟩
    obtain ⟨D, hD⟩ : ∃ D, D = w2.heap.size := ⟨_, rfl⟩
    obtain ⟨Z, hZ⟩ : ∃ Z, Z = w2.alloc (.cells (rcC rcz) 87) := ⟨_, rfl⟩
    have bZ : Below w2.heap.size w2 Z := by rw [hZ]; exact (Below.refl _ _).alloc (Nat.le_refl _) _
    have sZ : Z.heap.size = D + 1 := by rw [hZ, World.size_alloc, hD]
    have HZ : Hid (RchAt Z D rcz ∧ SdvAt Z (B + 1) none rcz ∧ Below w.heap.size w Z ∧ B + 2 ≤ D ∧ Z.heap.size = D + 1) := ⟨by rw [hZ, hD]; exact rch_new w2 rcz, (H1.out.2.1.below b2).below bZ, bthen (bthen H1.out.2.2.1 b2) bZ, by rw [hD]; exact Nat.le_trans H1.out.2.2.2 b2.size, sZ⟩
    have HZE : Hid (w2.heap.size = D ∧ w2.alloc (.cells (rcC rcz) 87) = Z) := ⟨hD.symm, hZ.symm⟩
    clear hD hZ bZ b2 QR H1 sZ
    go_wp2_with (first | (refine wpList_alloc_rch rfl rfl ?_; rw [HZE.out.1, HZE.out.2]; simp only [Act.put, List.setIfInBounds_toArray, List.set_cons_succ, List.set_cons_zero]) | (refine wpList_store_rch (.tmp 6) (.tmp 17) rfl rfl D rcz rcz rfl rfl HZ.out.1 rfl ?_))
    intro w3 h3 k3
    have H3 : Hid (RchAt w3 D rcz ∧ SdvAt w3 (B + 1) none rcz ∧ Below w.heap.size w w3 ∧ D + 1 ≤ w3.heap.size) := ⟨h3, HZ.out.2.1.ch k3 (by have := HZ.out; omega), HZ.out.2.2.1.trans (k3.below (fun q e => by have e' : q = D := e; have := HZ.out; have := HOX.out; omega) HZ.out.2.2.1.size), by have := k3.size; have := HZ.out; omega⟩
    have HDB : Hid (B + 2 ≤ D) := HZ.out.2.2.2.1
    clear h3 k3 HZ HZE
    go_wp2_with fail
    refine Calls.mono (num_any 150 w3) ?_
    rintro e x ⟨rfl, rfl⟩
    obtain ⟨D2, hD2⟩ : ∃ D, D = w3.heap.size := ⟨_, rfl⟩
    obtain ⟨V, hV⟩ : ∃ Z, Z = w3.alloc (.cells (cfC cz) 23) := ⟨_, rfl⟩
    have bV : Below w3.heap.size w3 V := by rw [hV]; exact (Below.refl _ _).alloc (Nat.le_refl _) _
    have sV : V.heap.size = D2 + 1 := by rw [hV, World.size_alloc, hD2]
    have HV : Hid (CfgAt V D2 cz ∧ RchAt V D rcz ∧ SdvAt V (B + 1) none rcz ∧ Below w.heap.size w V ∧ D < D2 ∧ V.heap.size = D2 + 1) := ⟨by rw [hV, hD2]; exact cfg_new w3 cz, H3.out.1.below bV, H3.out.2.1.below bV, bthen H3.out.2.2.1 bV, by have := H3.out.2.2.2; omega, sV⟩
    have HVE : Hid (w3.heap.size = D2 ∧ w3.alloc (.cells (cfC cz) 23) = V) := ⟨hD2.symm, hV.symm⟩
    clear hD2 hV bV sV H3
    go_wp2_with (first | (refine wpList_build_d2 rfl rfl ?_) | (refine wpList_alloc_cfg rfl rfl ?_; rw [HVE.out.1, HVE.out.2]; simp only [Act.put, List.setIfInBounds_toArray, List.set_cons_succ, List.set_cons_zero]) | (refine wpList_store_cfg (.tmp 8) (.tmp 36) rfl rfl D2 cz d2 rfl rfl HV.out.1 rfl ?_))
    intro w4 h4 k4
    have H4 : Hid (CfgAt w4 D2 d2 ∧ RchAt w4 D rcz ∧ SdvAt w4 (B + 1) none rcz ∧ Below w.heap.size w w4 ∧ D < D2 ∧ D2 + 1 ≤ w4.heap.size) := ⟨h4, HV.out.2.1.ch k4 (by have := HV.out; omega), HV.out.2.2.1.ch k4 (by have := HV.out; have := HDB.out; omega), HV.out.2.2.2.1.trans (k4.below (fun q e => by have e' : q = D2 := e; have := HV.out; have := HDB.out; have := HOX.out; omega) HV.out.2.2.2.1.size), HV.out.2.2.2.2.1, by have := k4.size; have := HV.out; omega⟩
    clear h4 k4 HV HVE
    go_wp2_with (first | (refine wpList_load_cfg (.tmp 8) rfl D2 d2 rfl H4.out.1 rfl ?_))
    refine Calls.mono (QD.out w4) ?_
    rintro e w5 ⟨b5, ⟨_, t, M, rfl, hca, ht, hM⟩ | ⟨hcb, rfl⟩⟩
    rotate_left
    · exact absurd hcb (by decide)
    have H5 : Hid (CfgAt w5 D2 d2 ∧ RchAt w5 D rcz ∧ SdvAt w5 (B + 1) none rcz ∧ CA w5 t M d2 [] ∧ Below w.heap.size w w5) := ⟨H4.out.1.below b5, H4.out.2.1.below b5, H4.out.2.2.1.below b5, hca, bthen H4.out.2.2.2.1 b5⟩
    have HTM : Hid (D2 + 1 ≤ t ∧ D2 + 1 ≤ M ∧ B + 2 ≤ D ∧ D < D2) := ⟨by have := H4.out.2.2.2.2.2; omega, by have := H4.out.2.2.2.2.2; omega, HDB.out, H4.out.2.2.2.2.1⟩
    clear b5 hca ht hM H4 QD
    go_wp2_with (first | (refine wpList_load_cfg (.tmp 8) rfl D2 d2 rfl H5.out.1 rfl ?_))
    refine Calls.mono (QR2.out w5) ?_
    rintro e w6 ⟨rfl, b6⟩
    have H6 : Hid (RchAt w6 D rcz ∧ SdvAt w6 (B + 1) none rcz ∧ CA w6 t M d2 [] ∧ Below w.heap.size w w6) := ⟨H5.out.2.1.below b6, H5.out.2.2.1.below b6, H5.out.2.2.2.1.below b6, bthen H5.out.2.2.2.2 b6⟩
    clear b6 H5 QR2
    go_wp2_with (first | (refine wpList_store_rch (.tmp 6) (.tmp 45) rfl rfl D rcz ⟨d2, none, 0, 0⟩ rfl rfl H6.out.1 rfl ?_))
    intro w7 h7 k7
    have H7 : Hid (RchAt w7 D ⟨d2, none, 0, 0⟩ ∧ SdvAt w7 (B + 1) none rcz ∧ SS w t M d2 [] ⟨d2, none, 0, 0⟩ [] w7) := ⟨h7, H6.out.2.1.ch k7 (by have := HTM.out; omega), ss_new (cfB_ok (by decide)) (H6.out.2.2.1.ch k7 (fun q hq e => by have e' : q = D := e; have := HTM.out; rcases hq with rfl | rfl | ⟨e0, he0, _⟩ <;> first | omega | cases he0)) (H6.out.2.2.2.trans (k7.below (fun q e => by have e' : q = D := e; have := HTM.out; have := HOX.out; omega) H6.out.2.2.2.size)) (by have := HTM.out; have := HOX.out; omega) (by have := HTM.out; have := HOX.out; omega)⟩
    have HDD : Hid (B + 2 ≤ D) := HDB.out
    clear h7 k7 H6
    go_upto_region 10 with fail
    refine MixH.start (fun A => RchAt A D ⟨d2, none, 0, 0⟩ ∧ True) (by kernel_rfl) ?_
    obtain ⟨wA, hwA⟩ : ∃ wA, wA = w7.drew := ⟨_, rfl⟩
    have bdr : Below w7.heap.size w7 wA := by rw [hwA]; exact (Below.refl _ _).drew
    have HA : Hid (SdvAt wA (B + 1) none rcz ∧ SS w t M d2 [] ⟨d2, none, 0, 0⟩ [] wA) := ⟨H7.out.2.1.below bdr, H7.out.2.2.below bdr⟩
    have hS : RchAt wA D ⟨d2, none, 0, 0⟩ ∧ True := ⟨H7.out.1.below bdr, trivial⟩
    rw [← hwA]
    clear hwA bdr H7
    refine MixH.takes [true] 11 (by kernel_rfl) (by kernel_rfl) (by decide) (by kernel_rfl) hS (fun K hK => ?_)
    simp only [Mix.pick]
    repeat (go_big_quiet_step (fail))
    refine wpQuiet_nil (hK _ ?_)
    clear hK K
    refine MixH.take 10 1 _ (.agg (rcC ⟨d2, none, 0, 0⟩)) rfl (by kernel_rfl) (by kernel_rfl) (by kernel_rfl) (by kernel_rfl) (yields_rch (.tmp 6) rfl D 0 ⟨d2, none, 0, 0⟩ rfl rfl (fun A hA => RchAt.all hA.1)) hS (fun a' ha => ?_)
    simp only [Act.put, List.setIfInBounds_toArray, List.set_cons_succ, List.set_cons_zero] at ha
    subst ha
    refine MixH.takes [false, false, false, true] 9 (by kernel_rfl) (by kernel_rfl) (by decide) (by kernel_rfl) hS (fun K hK => ?_)
    simp only [Mix.pick]
    repeat (go_big_quiet_step (fail))
    refine wpQuiet_nil (hK _ ?_)
    clear hK K
    refine MixH.takes [false, false, false, false, true] 8 (by kernel_rfl) (by kernel_rfl) (by decide) (by kernel_rfl) hS (fun K hK => ?_)
    simp only [Mix.pick]
    repeat (go_big_quiet_step (fail))
    refine wpQuiet_nil (hK _ ?_)
    clear hK K
    refine MixH.takes [false, false, false, false, false, true] 7 (by kernel_rfl) (by kernel_rfl) (by decide) (by kernel_rfl) hS (fun K hK => ?_)
    simp only [Mix.pick]
    repeat (go_big_quiet_step (fail))
    refine wpQuiet_nil (hK _ ?_)
    clear hK K
    refine MixH.takes [false, false, false, false, false, false, true] 6 (by kernel_rfl) (by kernel_rfl) (by decide) (by kernel_rfl) hS (fun K hK => ?_)
    simp only [Mix.pick]
    repeat (go_big_quiet_step (fail))
    refine wpQuiet_nil (hK _ ?_)
    clear hK K
    refine MixH.take 5 2 _ (.agg (svC (some ⟨t, 0, none⟩) ⟨d2, none, 0, 0⟩)) rfl (by kernel_rfl) (by kernel_rfl) (by kernel_rfl) (by kernel_rfl) (yields_build_sd (.tmp 47) (.tmp 48) rfl (some ⟨t, 0, none⟩) ⟨d2, none, 0, 0⟩ rfl rfl rfl) hS (fun a' ha => ?_)
    simp only [Act.put, List.setIfInBounds_toArray, List.set_cons_succ, List.set_cons_zero] at ha
    subst ha
    refine MixH.one [false, false, false, false, false, false, false, true] 4 7 _ rfl rfl (by kernel_rfl) (by kernel_rfl) (fun K hK => ?_)
    simp only [Mix.pick]
    go_wp2_with fail
    refine Calls.mono (num_any 0 wA) ?_
    rintro r x ⟨rfl, rfl⟩
    go_wp2
    refine ⟨rfl, hK _ _ hS ?_⟩
    clear hK K
    refine MixH.takes [false, false, false, false, false, false, false, false, true] 3 (by kernel_rfl) (by kernel_rfl) (by decide) (by kernel_rfl) hS (fun K hK => ?_)
    simp only [Mix.pick]
    repeat (go_big_quiet_step (fail))
    refine wpQuiet_nil (hK _ ?_)
    clear hK K
    refine MixH.takes [false, false, false, false, false, false, false, false, false, true] 2 (by kernel_rfl) (by kernel_rfl) (by decide) (by kernel_rfl) hS (fun K hK => ?_)
    simp only [Mix.pick]
    repeat (go_big_quiet_step (fail))
    refine wpQuiet_nil (hK _ ?_)
    clear hK K
    refine MixH.one [false, false, false, false, false, false, false, false, false, false, true] 1 10 _ rfl rfl (by kernel_rfl) (by kernel_rfl) (fun K hK => ?_)
    simp only [Mix.pick]
    refine wpList_store_sdv (.tmp 2) (.tmp 49) rfl rfl (B + 1) none rcz (some ⟨t, 0, none⟩) ⟨d2, none, 0, 0⟩ rfl rfl HA.out.1 rfl ?_
    intro wE hE kE
    have HE : Hid (SdvAt wE (B + 1) (some ⟨t, 0, none⟩) ⟨d2, none, 0, 0⟩ ∧ SS w t M d2 [] ⟨d2, none, 0, 0⟩ [] wE) := ⟨hE, HA.out.2.ch kE (fun q hq e => by have e' : q = B + 1 := e; have := HTM.out; rcases hq with (rfl | rfl | ⟨e0, he0, _⟩) | (⟨off, h0⟩ | ⟨r0, h0, _⟩) <;> first | omega | cases he0 | cases h0) (fun q e => by have e' : q = B + 1 := e; have := HOX.out; omega)⟩
    replace hS : RchAt wE D ⟨d2, none, 0, 0⟩ ∧ True := ⟨hS.1.ch kE (by have := HDD.out; omega), trivial⟩
    clear hE kE HA
    go_wp2
    refine ⟨rfl, hK _ _ hS ?_⟩
    clear hK K
    refine MixH.takes [false, false, false, false, false, false, false, false, false, false, false, true] 0 (by kernel_rfl) (by kernel_rfl) (by decide) (by kernel_rfl) hS (fun K hK => ?_)
    simp only [Mix.pick]
    repeat (go_big_quiet_step (fail))
    refine wpQuiet_nil (hK _ ?_)
    clear hK K
    refine MixH.done (by kernel_rfl) ?_
    clear hS
    go_wp2_with fail
    refine bodyPost_ret (results_sdv_tmp rfl _ _ (B + 1) _ _ rfl HE.out.1) rfl ?_
    rw [HR.out]
    exact ⟨t, M, rfl, HE.out.2⟩
end Go.Proofs.Ytialefdojeddjaa
namespace Go.Proofs.Ytialefdojeddjaa
open Go.RowKit Go.Maps

def c7 : CF := ⟨2, 2, 2, 2, 3⟩
def k1 : KV := ⟨0, 4, ip4X 1⟩
def m1 : Nat → Nat := fun i => if i = 0 then 2 else if i = 5 then 1 else 0
def op7 : Nat → OV
  | 0 => ⟨1, false, k1, fun _ => 0, 7⟩
  | 1 => ⟨3, false, kz, fun _ => 0, 0⟩
  | 2 => ⟨3, false, kz, fun _ => 0, 0⟩
  | 3 => ⟨2, false, k1, m1, 1⟩
  | 4 => ⟨1, false, k1, fun _ => 0, 8⟩
  | 5 => ⟨5, false, kz, fun _ => 0, 0⟩
  | _ => ⟨6, false, kz, fun _ => 0, 0⟩
def ns7 : Nat → List EN
  | 0 => []
  | 1 => [⟨k1, mz, 1, 0, 1, [7]⟩]
  | 2 => [⟨k1, mz, 1, 1, 1, [7]⟩]
  | 3 => [⟨k1, mz, 1, 0, 2, [7]⟩]
  | _ => [⟨k1, m1, 2, 0, 0, []⟩]
theorem k1_wf : k1.Wf := ⟨by decide, by decide, fun i _ => by show ip4X 1 i < 256; unfold ip4X; split; omega; split <;> omega⟩
theorem kz_wf : kz.Wf := ⟨by decide, by decide, fun i _ => by show (0 : Nat) < 256; omega⟩
theorem m1_lt (i : Nat) (_ : i < 6) : m1 i < 256 := by unfold m1; split; omega; split <;> omega
theorem op7_ok (i : Nat) : OpOk (op7 i) := by
  unfold op7
  split
  · exact ⟨k1_wf, fun _ _ => by show (0 : Nat) < 256; omega, by decide, by decide⟩
  · exact ⟨kz_wf, fun _ _ => by show (0 : Nat) < 256; omega, by decide, by decide⟩
  · exact ⟨kz_wf, fun _ _ => by show (0 : Nat) < 256; omega, by decide, by decide⟩
  · exact ⟨k1_wf, m1_lt, by decide, by decide⟩
  · exact ⟨k1_wf, fun _ _ => by show (0 : Nat) < 256; omega, by decide, by decide⟩
  · exact ⟨kz_wf, fun _ _ => by show (0 : Nat) < 256; omega, by decide, by decide⟩
  · exact ⟨kz_wf, fun _ _ => by show (0 : Nat) < 256; omega, by decide, by decide⟩
theorem k1_B : kB k1 = true := by decide
theorem l1_B : lB k1 m1 1 = true := by decide
theorem one_of {R : List RE} {n : EN} (h : NS R = [n]) : ∃ r, R = [r] ∧ r.n = n := by
  match R, h with
  | [], h => cases h
  | [r], h => simp only [NS, List.map_cons, List.map_nil, List.cons.injEq, and_true] at h; exact ⟨r, rfl, h⟩
  | _ :: _ :: _, h => simp [NS] at h
theorem tick_one {r : RE} {n n' : EN} (hr : r.n = n) (hd : (if dueB c7 n then (if (roldN c7 n).tr < c7.tr then some { roldN c7 n with ag := 0, tr := (roldN c7 n).tr + 1 } else none) else some (roldN c7 n)) = some n') : NS ([r].filterMap (rtk c7)) = [n'] := by
  have h1 : (rtk c7 r).map (fun y => y.n) = some n' := by
    rw [← hd]
    unfold rtk
    rw [hr]
    split
    · split <;> rfl
    · rfl
  cases h2 : rtk c7 r with
  | none => rw [h2] at h1; cases h1
  | some y =>
    rw [h2] at h1
    simp only [Option.map_some, Option.some.injEq] at h1
    rw [List.filterMap_cons_some h2, List.filterMap_nil]
    show [y.n] = [n']
    rw [h1]
theorem step7 {R R' : List RE} (i : Nat) (hi : i < 7) (h : StepR c7 (op7 i) R R') (hN : NS R = ns7 i) : NS R' = ns7 (i + 1) := by
  match i, hi with
  | 0, _ =>
    have hR : R = [] := by simpa [NS, ns7] using hN
    subst hR
    obtain ⟨m, oc, er, hw⟩ := h.1 rfl
    rcases hw with ⟨h1, _⟩ | ⟨_, ⟨_, e, he, ha, _⟩ | ⟨j, e, h1, _⟩⟩
    · exact absurd h1 (by show ¬ kB k1 = false; rw [k1_B]; decide)
    · rcases ha with ⟨_, _, p, hp, rfl⟩ | ⟨h1, _⟩ | ⟨h1, _⟩
      · simp only [List.take_nil, List.drop_nil, List.nil_append]
        show [e.n] = _
        rw [he]
        rfl
      · exact absurd (show ((([] : List RE).length : Nat) : Int) < c7.mx by decide) h1
      · exact absurd (show ((([] : List RE).length : Nat) : Int) < c7.mx by decide) h1
    · simp at h1
  | 1, _ =>
    obtain ⟨r, rfl, hr⟩ := one_of (show NS R = [⟨k1, mz, 1, 0, 1, [7]⟩] from hN)
    rw [h.2.2.1 rfl]
    exact tick_one hr rfl
  | 2, _ =>
    obtain ⟨r, rfl, hr⟩ := one_of (show NS R = [⟨k1, mz, 1, 1, 1, [7]⟩] from hN)
    rw [h.2.2.1 rfl]
    exact tick_one hr rfl
  | 3, _ =>
    obtain ⟨r, rfl, hr⟩ := one_of (show NS R = [⟨k1, mz, 1, 0, 2, [7]⟩] from hN)
    obtain ⟨l, er, hw⟩ := h.2.1 rfl
    have hk : eqP r.n.k k1 = true := by rw [hr]; exact eqP_refl k1
    rcases hw with ⟨h1, _⟩ | ⟨_, ⟨h1, _⟩ | ⟨h1, _⟩ | ⟨j, e, h1, _, h2⟩⟩
    · exact absurd h1 (by show ¬ lB k1 m1 1 = false; rw [l1_B]; decide)
    · have := h1 r (by simp); rw [show eqP r.n.k (op7 3).k = true from hk] at this; cases this
    · have := h1 r (by simp); rw [show eqP r.n.k (op7 3).k = true from hk] at this; cases this
    · have hj : j = 0 ∧ e = r := by
        cases j with
        | zero => simp at h1; exact ⟨rfl, h1.symm⟩
        | succ j => simp at h1
      obtain ⟨rfl, rfl⟩ := hj
      rcases h2 with ⟨h3, _⟩ | ⟨_, ⟨y, hy, rfl⟩, _⟩
      · exact absurd rfl h3
      · show [y.n] = _
        rw [hy, hr]
        rfl
  | 4, _ =>
    obtain ⟨r, rfl, hr⟩ := one_of (show NS R = [⟨k1, m1, 2, 0, 0, []⟩] from hN)
    obtain ⟨m, oc, er, hw⟩ := h.1 rfl
    have hk : eqP r.n.k k1 = true := by rw [hr]; exact eqP_refl k1
    rcases hw with ⟨h1, _⟩ | ⟨_, ⟨h1, _⟩ | ⟨j, e, h1, _, h2⟩⟩
    · exact absurd h1 (by show ¬ kB k1 = false; rw [k1_B]; decide)
    · have := h1 r (by simp); rw [show eqP r.n.k (op7 4).k = true from hk] at this; cases this
    · have hj : j = 0 ∧ e = r := by
        cases j with
        | zero => simp at h1; exact ⟨rfl, h1.symm⟩
        | succ j => simp at h1
      obtain ⟨rfl, rfl⟩ := hj
      rcases h2 with ⟨_, rfl, _⟩ | ⟨h3, _⟩ | ⟨h3, _⟩ | ⟨h3, _⟩
      · exact hN
      · rw [hr] at h3; cases h3
      · exact absurd (by rw [hr]) h3
      · exact absurd (by rw [hr]) h3
  | 5, _ =>
    rw [h.2.2.2 (by decide) (by decide) (by decide)]
    exact hN
  | 6, _ =>
    rw [h.2.2.2 (by decide) (by decide) (by decide)]
    exact hN
end Go.Proofs.Ytialefdojeddjaa
namespace Go.Proofs.Ytialefdojeddjaa
open Go.RowKit Go.Maps

theorem run_buildc7 (w : World) : (Instr.build 23 #[(0, .int .i64 2), (1, .int .i64 2), (2, .int .i64 2), (3, .int .i64 2), (4, .int .i64 3)]).run Try.prog w = .ok (.agg (cfC c7)) w := by kernel_rfl
theorem wpList_build_c7 {ops : Array Oper} {rest : List Oper} {o : Oper} {a : Act} {w : World} {Q : Exit → Act → World → Prop} (ho : o.op = .build 23 #[(0, .const (.int .i64 2)), (1, .const (.int .i64 2)), (2, .const (.int .i64 2)), (3, .const (.int .i64 2)), (4, .const (.int .i64 3))]) (hw : Region.wanted o (yielded ops a.tmps) = true)
    (h : wpList Try.prog ops Q rest (a.put o.dst (.agg (cfC c7))) w) : wpList Try.prog ops Q (o :: rest) a w := by
  refine wpList_step fun K hK => ?_
  rw [if_pos hw]
  have hrun : (execOp a.eval o).run Try.prog w = .ok (.value (.agg (cfC c7))) w := by
    unfold execOp
    simp only [ho, Sem.run_bind, List.map_toArray, List.map_cons, List.map_nil]
    have := run_buildc7 w
    simp only [show ∀ l, a.eval (.const l) = l from fun _ => rfl, this, Result.andThen_ok]
    rfl
  unfold Oper.wp
  rw [hrun]
  exact hK _ _ h
theorem run_buildm1 (w : World) : (Instr.build 33 #[(0, .int .u8 2), (1, .int .u8 0), (2, .int .u8 0), (3, .int .u8 0), (4, .int .u8 0), (5, .int .u8 1)]).run Try.prog w = .ok (.agg (macC m1)) w := by kernel_rfl
theorem wpList_build_m1 {ops : Array Oper} {rest : List Oper} {o : Oper} {a : Act} {w : World} {Q : Exit → Act → World → Prop} (ho : o.op = .build 33 #[(0, .const (.int .u8 2)), (1, .const (.int .u8 0)), (2, .const (.int .u8 0)), (3, .const (.int .u8 0)), (4, .const (.int .u8 0)), (5, .const (.int .u8 1))]) (hw : Region.wanted o (yielded ops a.tmps) = true)
    (h : wpList Try.prog ops Q rest (a.put o.dst (.agg (macC m1))) w) : wpList Try.prog ops Q (o :: rest) a w := by
  refine wpList_step fun K hK => ?_
  rw [if_pos hw]
  have hrun : (execOp a.eval o).run Try.prog w = .ok (.value (.agg (macC m1))) w := by
    unfold execOp
    simp only [ho, Sem.run_bind, List.map_toArray, List.map_cons, List.map_nil]
    have := run_buildm1 w
    simp only [show ∀ l, a.eval (.const l) = l from fun _ => rfl, this, Result.andThen_ok]
    rfl
  unfold Oper.wp
  rw [hrun]
  exact hK _ _ h
theorem run_bo1 (kd n : Int) (w : World) : (Instr.build 35 #[(0, .int .i64 kd), (3, .agg (ipCells 4 (ip4X 1))), (5, .int .i64 n)]).run Try.prog w = .ok (.agg (opC ⟨kd, false, k1, fun _ => 0, n⟩)) w := by kernel_rfl
theorem yields_bo1 {ops : Array Oper} {S : World → Prop} {o : Oper} {a : Act} (kd n : Int) (x : Operand) (ho : o.op = .build 35 #[(0, .const (.int .i64 kd)), (3, x), (5, .const (.int .i64 n))]) (hx : a.eval x = .agg (ipCells 4 (ip4X 1))) (hw : Region.wanted o (yielded ops a.tmps) = true) : YieldsIf Try.prog ops S o (.agg (opC ⟨kd, false, k1, fun _ => 0, n⟩)) a := by
  refine .inl ⟨hw, fun w _ => ?_⟩
  unfold execOp
  simp only [ho, Sem.run_bind, List.map_toArray, List.map_cons, List.map_nil, hx, show ∀ l, a.eval (.const l) = l from fun _ => rfl, run_bo1 kd n w, Result.andThen_ok]
  rfl
theorem run_bo2 (kd n : Int) (w : World) : (Instr.build 35 #[(0, .int .i64 kd), (3, .agg (ipCells 4 (ip4X 1))), (4, .agg (macC m1)), (5, .int .i64 n)]).run Try.prog w = .ok (.agg (opC ⟨kd, false, k1, m1, n⟩)) w := by kernel_rfl
theorem yields_bo2 {ops : Array Oper} {S : World → Prop} {o : Oper} {a : Act} (kd n : Int) (x y : Operand) (ho : o.op = .build 35 #[(0, .const (.int .i64 kd)), (3, x), (4, y), (5, .const (.int .i64 n))]) (hx : a.eval x = .agg (ipCells 4 (ip4X 1))) (hy : a.eval y = .agg (macC m1)) (hw : Region.wanted o (yielded ops a.tmps) = true) : YieldsIf Try.prog ops S o (.agg (opC ⟨kd, false, k1, m1, n⟩)) a := by
  refine .inl ⟨hw, fun w _ => ?_⟩
  unfold execOp
  simp only [ho, Sem.run_bind, List.map_toArray, List.map_cons, List.map_nil, hx, hy, show ∀ l, a.eval (.const l) = l from fun _ => rfl, run_bo2 kd n w, Result.andThen_ok]
  rfl
theorem run_bo0 (kd : Int) (w : World) : (Instr.build 35 #[(0, .int .i64 kd)]).run Try.prog w = .ok (.agg (opC ⟨kd, false, kz, fun _ => 0, 0⟩)) w := by kernel_rfl
theorem yields_bo0 {ops : Array Oper} {S : World → Prop} {o : Oper} {a : Act} (kd : Int) (ho : o.op = .build 35 #[(0, .const (.int .i64 kd))]) (hw : Region.wanted o (yielded ops a.tmps) = true) : YieldsIf Try.prog ops S o (.agg (opC ⟨kd, false, kz, fun _ => 0, 0⟩)) a := by
  refine .inl ⟨hw, fun w _ => ?_⟩
  unfold execOp
  simp only [ho, Sem.run_bind, List.map_toArray, List.map_cons, List.map_nil, show ∀ l, a.eval (.const l) = l from fun _ => rfl, run_bo0 kd w, Result.andThen_ok]
  rfl
def C7 : Array Value := ((opC (op7 0)).toList ++ ((opC (op7 1)).toList ++ ((opC (op7 2)).toList ++ ((opC (op7 3)).toList ++ ((opC (op7 4)).toList ++ ((opC (op7 5)).toList ++ (opC (op7 6)).toList)))))).toArray
def C70 : Array Value := ((opC oz).toList ++ ((opC oz).toList ++ ((opC oz).toList ++ ((opC oz).toList ++ ((opC oz).toList ++ ((opC oz).toList ++ (opC oz).toList)))))).toArray
theorem run_b7 (w : World) : (Instr.build 121 #[(0, .agg (opC (op7 0))), (1, .agg (opC (op7 1))), (2, .agg (opC (op7 2))), (3, .agg (opC (op7 3))), (4, .agg (opC (op7 4))), (5, .agg (opC (op7 5))), (6, .agg (opC (op7 6)))]).run Try.prog w = .ok (.agg C7) w := by kernel_rfl
theorem yields_b7 {ops : Array Oper} {S : World → Prop} {o : Oper} {a : Act} (y0 y1 y2 y3 y4 y5 y6 : Operand) (ho : o.op = .build 121 #[(0, y0), (1, y1), (2, y2), (3, y3), (4, y4), (5, y5), (6, y6)]) (h0 : a.eval y0 = .agg (opC (op7 0))) (h1 : a.eval y1 = .agg (opC (op7 1))) (h2 : a.eval y2 = .agg (opC (op7 2))) (h3 : a.eval y3 = .agg (opC (op7 3))) (h4 : a.eval y4 = .agg (opC (op7 4))) (h5 : a.eval y5 = .agg (opC (op7 5))) (h6 : a.eval y6 = .agg (opC (op7 6))) (hw : Region.wanted o (yielded ops a.tmps) = true) : YieldsIf Try.prog ops S o (.agg C7) a := by
  refine .inl ⟨hw, fun w _ => ?_⟩
  unfold execOp
  simp only [ho, Sem.run_bind, List.map_toArray, List.map_cons, List.map_nil, h0, h1, h2, h3, h4, h5, h6, run_b7 w, Result.andThen_ok]
  rfl
theorem Try.size_oar : (Try.prog.info? 121).map (·.size) = some C7.size := by kernel_rfl
theorem C7_one : C7.all (·.oneCell') = true := by kernel_rfl
theorem C7_size : C70.size = C7.size := by kernel_rfl
theorem run_alloc_oar (w : World) (a : Act) : ∀ o : Oper, o.op = .alloc 121 → (execOp a.eval o).run Try.prog w = .ok (.value (.pointer (some ⟨w.heap.size, 0, none⟩))) (w.alloc (.cells C70 121)) := by
  rintro ⟨dst, op, type, pos, after, guard⟩ ho
  simp only at ho
  subst ho
  simp only [execOp]
  go_simp
  rfl
theorem wpList_alloc_oar {ops : Array Oper} {rest : List Oper} {o : Oper} {a : Act} {w : World} {Q : Exit → Act → World → Prop} (ho : o.op = .alloc 121) (hw : Region.wanted o (yielded ops a.tmps) = true)
    (h : wpList Try.prog ops Q rest (a.put o.dst (.pointer (some ⟨w.heap.size, 0, none⟩))) (w.alloc (.cells C70 121))) : wpList Try.prog ops Q (o :: rest) a w := by
  refine wpList_step fun K hK => ?_
  rw [if_pos hw]
  unfold Oper.wp
  rw [run_alloc_oar w a o ho]
  exact hK _ _ h
def OarAt (w : World) (O : Nat) (c : Array Value) : Prop := w.heap[O]? = some (.cells c 121 (0, 0))
theorem OarAt.below {w w' : World} {O : Nat} {c : Array Value} (h : OarAt w O c) (b : Below w.heap.size w w') : OarAt w' O c := (b.block O (Array.getElem?_eq_some_iff.1 h).1).trans h
theorem OarAt.ch {S : Nat → Prop} {w w' : World} {O : Nat} {c : Array Value} (h : OarAt w O c) (k : Ch S w w') (hS : ¬ S O) : OarAt w' O c := (k.block O (Array.getElem?_eq_some_iff.1 h).1 hS).trans h
theorem OarAt.lt {w : World} {O : Nat} {c : Array Value} (h : OarAt w O c) : O < w.heap.size := (Array.getElem?_eq_some_iff.1 h).1
theorem C7_0 : (C7.extract (0 * 27) (0 * 27 + 27)).toList = (opC (op7 0)).toList := by kernel_rfl
theorem C7_1 : (C7.extract (1 * 27) (1 * 27 + 27)).toList = (opC (op7 1)).toList := by kernel_rfl
theorem C7_2 : (C7.extract (2 * 27) (2 * 27 + 27)).toList = (opC (op7 2)).toList := by kernel_rfl
theorem C7_3 : (C7.extract (3 * 27) (3 * 27 + 27)).toList = (opC (op7 3)).toList := by kernel_rfl
theorem C7_4 : (C7.extract (4 * 27) (4 * 27 + 27)).toList = (opC (op7 4)).toList := by kernel_rfl
theorem C7_5 : (C7.extract (5 * 27) (5 * 27 + 27)).toList = (opC (op7 5)).toList := by kernel_rfl
theorem C7_6 : (C7.extract (6 * 27) (6 * 27 + 27)).toList = (opC (op7 6)).toList := by kernel_rfl
theorem C7_at (i : Nat) (hi : i < 7) : (C7.extract (i * 27) (i * 27 + 27)).toList = (opC (op7 i)).toList := by
  match i, hi with
  | 0, _ => exact C7_0
  | 1, _ => exact C7_1
  | 2, _ => exact C7_2
  | 3, _ => exact C7_3
  | 4, _ => exact C7_4
  | 5, _ => exact C7_5
  | 6, _ => exact C7_6
theorem OarAt.at {w : World} {O : Nat} (h : OarAt w O C7) (i : Nat) (hi : i < 7) : w.rangeAt O (i * 27) (opC (op7 i)).toList := by
  have e := World.rangeAt_of_block h (i * 27) 27
  rwa [C7_at i hi] at e
theorem wpList_store_oar {ops : Array Oper} {rest : List Oper} {o : Oper} {a : Act} {w : World} {Q : Exit → Act → World → Prop} (x y : Operand) (ho : o.op = .store 121 x y) (hd : o.dst = none) (O : Nat) (hx : a.eval x = .pointer (some ⟨O, 0, none⟩)) (hy : a.eval y = .agg C7) (hb : OarAt w O C70)
    (hw : Region.wanted o (yielded ops a.tmps) = true) (hh : ∀ w', OarAt w' O C7 → Ch (fun q => q = O) w w' → wpList Try.prog ops Q rest a w') : wpList Try.prog ops Q (o :: rest) a w := by
  refine wpList_step fun K hK => ?_
  rw [if_pos hw]
  refine wp_store_row 121 x y ho O C7 hx hy _ C70 hb Try.size_oar C7_size C7_one (hK _ _ ?_)
  rw [hd]
  refine hh _ (setRow_heap w O _ _ _ _ hb) ⟨rfl, rfl, rfl, ?_, ?_⟩
  · simp [World.setRow]
  · intro k hk hne
    simp only [World.setRow]
    rw [Array.getElem?_modify, if_neg (fun e => hne e.symm)]

set_option maxHeartbeats 12800000 in
set_option maxRecDepth 100000 in
theorem started_any (w : World) : Calls Try.prog 41 #[] w fun r w' => r = .returned (.bool true) ∧ Below w.heap.size w w' := by
  have QM : Hid _ := made_any c7 w
  rw [show cfD c7 = c7 from rfl] at QM
  have QI : Hid (∀ A, Calls Try.prog 45 #[.int .u8 1] A fun e w' => e = .returned (.agg (ipCells 4 (ip4X 1))) ∧ Below A.heap.size A w') := fun A => ip_any 1 A
  go_enter Try.func41, Try.ntmps41
  go_wp2_with (first | (refine wpList_build_c7 rfl rfl ?_))
  refine Calls.mono QM.out ?_
  rintro r w1 ⟨t, M, rfl, hSS⟩
  clear QM
  obtain ⟨S, hS1⟩ : ∃ D, D = w1.heap.size := ⟨_, rfl⟩
  obtain ⟨Z, hZ⟩ : ∃ Z, Z = w1.alloc (.cells (svC none rcz) 89) := ⟨_, rfl⟩
  have bZ : Below w1.heap.size w1 Z := by rw [hZ]; exact (Below.refl _ _).alloc (Nat.le_refl _) _
  have HTM : Hid (∀ q, SB t M [] ⟨c7, none, 0, 0⟩ [] q → q < S) := fun q hq => by rw [hS1]; exact hSS.lt q hq
  have HWS : Hid (w.heap.size ≤ S) := by show _ ≤ _; rw [hS1]; exact hSS.l.bel.size
  have HZ : Hid (SdvAt Z S none rcz ∧ SS w t M c7 [] ⟨c7, none, 0, 0⟩ [] Z ∧ S + 1 ≤ Z.heap.size) := ⟨by rw [hZ, hS1]; exact sdv_new w1 none rcz, hSS.below bZ, by rw [hZ, World.size_alloc, hS1]; omega⟩
  have HZE : Hid (w1.heap.size = S ∧ w1.alloc (.cells (svC none rcz) 89) = Z) := ⟨hS1.symm, hZ.symm⟩
  clear hS1 hZ bZ hSS
  go_wp2_with (first | (refine wpList_alloc_sdv rfl rfl ?_; rw [HZE.out.1, HZE.out.2]; simp only [Act.put, List.setIfInBounds_toArray, List.set_cons_succ, List.set_cons_zero]) | (refine wpList_store_sdv (.tmp 1) (.tmp 9) rfl rfl S none rcz (some ⟨t, 0, none⟩) ⟨c7, none, 0, 0⟩ rfl rfl HZ.out.1 rfl ?_))
  intro w2 h2 k2
  have H2 : Hid (SdvAt w2 S (some ⟨t, 0, none⟩) ⟨c7, none, 0, 0⟩ ∧ SS w t M c7 [] ⟨c7, none, 0, 0⟩ [] w2 ∧ S + 1 ≤ w2.heap.size) := ⟨h2, HZ.out.2.1.ch k2 (fun q hq e => by have e' : q = S := e; have := HTM.out q hq; omega) (fun q e => by have e' : q = S := e; have := HWS.out; omega), Nat.le_trans HZ.out.2.2 k2.size⟩
  clear h2 k2 HZ HZE
  obtain ⟨S2, hS2⟩ : ∃ D, D = w2.heap.size := ⟨_, rfl⟩
  obtain ⟨V, hV⟩ : ∃ Z, Z = w2.alloc (.cells (macC mz) 33) := ⟨_, rfl⟩
  have bV : Below w2.heap.size w2 V := by rw [hV]; exact (Below.refl _ _).alloc (Nat.le_refl _) _
  have HSS : Hid (S < S2 ∧ w.heap.size ≤ S) := ⟨by have := H2.out.2.2; omega, HWS.out⟩
  have HV : Hid (MacAt V S2 mz ∧ SdvAt V S (some ⟨t, 0, none⟩) ⟨c7, none, 0, 0⟩ ∧ SS w t M c7 [] ⟨c7, none, 0, 0⟩ [] V) := ⟨by rw [hV, hS2]; exact mac_new w2 mz, H2.out.1.below bV, H2.out.2.1.below bV⟩
  have HVE : Hid (w2.heap.size = S2 ∧ w2.alloc (.cells (macC mz) 33) = V) := ⟨hS2.symm, hV.symm⟩
  clear hS2 hV bV H2
  go_wp2_with (first | (refine wpList_build_m1 rfl rfl ?_) | (refine wpList_alloc_mac rfl rfl ?_; rw [HVE.out.1, HVE.out.2]; simp only [Act.put, List.setIfInBounds_toArray, List.set_cons_succ, List.set_cons_zero]) | (refine wpList_store_mac (.tmp 3) (.tmp 11) rfl rfl S2 mz m1 rfl rfl HV.out.1 rfl ?_))
  intro w3 h3 k3
  have HQ : Hid (SdvAt w3 S (some ⟨t, 0, none⟩) ⟨c7, none, 0, 0⟩ ∧ MacAt w3 S2 m1 ∧ SS w t M c7 [] ⟨c7, none, 0, 0⟩ [] w3) := ⟨HV.out.2.1.ch k3 (by have := HSS.out; omega), h3, HV.out.2.2.ch k3 (fun q hq e => by have e' : q = S2 := e; have := HTM.out q hq; have := HSS.out; omega) (fun q e => by have e' : q = S2 := e; have := HSS.out; omega)⟩
  clear h3 k3 HV HVE
  go_upto_region 3 with fail
  go_cut [4] (fun v wx => ∃ D, v = .pointer (some ⟨D, 0, none⟩) ∧ Hid (SdvAt wx S (some ⟨t, 0, none⟩) ⟨c7, none, 0, 0⟩ ∧ OarAt wx D C7 ∧ SS w t M c7 [] ⟨c7, none, 0, 0⟩ [] wx ∧ S2 < D))
  case first =>
    refine MixH.start (fun A => MacAt A S2 m1) (by kernel_rfl) ?_
    obtain ⟨wA, hwA⟩ : ∃ wA, wA = w3.drew := ⟨_, rfl⟩
    have bdr : Below w3.heap.size w3 wA := by rw [hwA]; exact (Below.refl _ _).drew
    have HP : Hid (SdvAt wA S (some ⟨t, 0, none⟩) ⟨c7, none, 0, 0⟩ ∧ MacAt wA S2 m1 ∧ SS w t M c7 [] ⟨c7, none, 0, 0⟩ [] wA) := ⟨HQ.out.1.below bdr, HQ.out.2.1.below bdr, HQ.out.2.2.below bdr⟩
    have hS : MacAt wA S2 m1 := HP.out.2.1
    rw [← hwA]
    clear hwA bdr HQ
    refine MixH.take 13 2 _ (.agg (opC (op7 1))) rfl (by kernel_rfl) (by kernel_rfl) (by kernel_rfl) (by kernel_rfl) (yields_bo0 3 rfl rfl) hS (fun a' ha => ?_)
    simp only [Act.put, List.setIfInBounds_toArray, List.set_cons_succ, List.set_cons_zero] at ha
    subst ha
    refine MixH.take 12 3 _ (.agg (opC (op7 2))) rfl (by kernel_rfl) (by kernel_rfl) (by kernel_rfl) (by kernel_rfl) (yields_bo0 3 rfl rfl) hS (fun a' ha => ?_)
    simp only [Act.put, List.setIfInBounds_toArray, List.set_cons_succ, List.set_cons_zero] at ha
    subst ha
    refine MixH.take 11 5 _ (.agg (macC m1)) rfl (by kernel_rfl) (by kernel_rfl) (by kernel_rfl) (by kernel_rfl) (yields_mac (.tmp 3) rfl S2 0 m1 rfl rfl (fun A hA => MacAt.all hA)) hS (fun a' ha => ?_)
    simp only [Act.put, List.setIfInBounds_toArray, List.set_cons_succ, List.set_cons_zero] at ha
    subst ha
    refine MixH.take 10 9 _ (.agg (opC (op7 5))) rfl (by kernel_rfl) (by kernel_rfl) (by kernel_rfl) (by kernel_rfl) (yields_bo0 5 rfl rfl) hS (fun a' ha => ?_)
    simp only [Act.put, List.setIfInBounds_toArray, List.set_cons_succ, List.set_cons_zero] at ha
    subst ha
    refine MixH.take 9 10 _ (.agg (opC (op7 6))) rfl (by kernel_rfl) (by kernel_rfl) (by kernel_rfl) (by kernel_rfl) (yields_bo0 6 rfl rfl) hS (fun a' ha => ?_)
    simp only [Act.put, List.setIfInBounds_toArray, List.set_cons_succ, List.set_cons_zero] at ha
    subst ha
    refine MixH.pair [true] [false, false, false, false, false, false, false, false, false, false, false, false, true] 8 0 12 _ _ rfl rfl rfl rfl (by kernel_rfl) (by kernel_rfl) (fun K hK => ?_) (fun K hK => ?_)
    · simp only [Mix.pick]
      go_wp2_with fail
      refine Calls.mono (QI.out wA) ?_
      rintro r wC1 ⟨rfl, bC⟩
      have HP : Hid (SdvAt wC1 S (some ⟨t, 0, none⟩) ⟨c7, none, 0, 0⟩ ∧ MacAt wC1 S2 m1 ∧ SS w t M c7 [] ⟨c7, none, 0, 0⟩ [] wC1) := ⟨HP.out.1.below bC, HP.out.2.1.below bC, HP.out.2.2.below bC⟩
      have hS : MacAt wC1 S2 m1 := HP.out.2.1
      clear bC
      go_wp2
      refine ⟨rfl, hK _ _ hS ?_⟩
      clear hK K
      refine MixH.take 7 1 _ (.agg (opC (op7 0))) rfl (by kernel_rfl) (by kernel_rfl) (by kernel_rfl) (by kernel_rfl) (yields_bo1 1 7 (.tmp 12) rfl rfl rfl) hS (fun a' ha => ?_)
      simp only [Act.put, List.setIfInBounds_toArray, List.set_cons_succ, List.set_cons_zero] at ha
      subst ha
      refine MixH.pair [false, false, false, false, true] [false, false, false, false, false, false, false, false, false, false, false, false, true] 6 4 12 _ _ rfl rfl rfl rfl (by kernel_rfl) (by kernel_rfl) (fun K hK => ?_) (fun K hK => ?_)
      · simp only [Mix.pick]
        go_wp2_with fail
        refine Calls.mono (QI.out wC1) ?_
        rintro r wC2 ⟨rfl, bC⟩
        have HP : Hid (SdvAt wC2 S (some ⟨t, 0, none⟩) ⟨c7, none, 0, 0⟩ ∧ MacAt wC2 S2 m1 ∧ SS w t M c7 [] ⟨c7, none, 0, 0⟩ [] wC2) := ⟨HP.out.1.below bC, HP.out.2.1.below bC, HP.out.2.2.below bC⟩
        have hS : MacAt wC2 S2 m1 := HP.out.2.1
        clear bC
        go_wp2
        refine ⟨rfl, hK _ _ hS ?_⟩
        clear hK K
        refine MixH.take 5 6 _ (.agg (opC (op7 3))) rfl (by kernel_rfl) (by kernel_rfl) (by kernel_rfl) (by kernel_rfl) (yields_bo2 2 1 (.tmp 16) (.tmp 17) rfl rfl rfl rfl) hS (fun a' ha => ?_)
        simp only [Act.put, List.setIfInBounds_toArray, List.set_cons_succ, List.set_cons_zero] at ha
        subst ha
        refine MixH.pair [false, false, false, false, false, false, false, true] [false, false, false, false, false, false, false, false, false, false, false, false, true] 4 7 12 _ _ rfl rfl rfl rfl (by kernel_rfl) (by kernel_rfl) (fun K hK => ?_) (fun K hK => ?_)
        · simp only [Mix.pick]
          go_wp2_with fail
          refine Calls.mono (QI.out wC2) ?_
          rintro r wC3 ⟨rfl, bC⟩
          have HP : Hid (SdvAt wC3 S (some ⟨t, 0, none⟩) ⟨c7, none, 0, 0⟩ ∧ MacAt wC3 S2 m1 ∧ SS w t M c7 [] ⟨c7, none, 0, 0⟩ [] wC3) := ⟨HP.out.1.below bC, HP.out.2.1.below bC, HP.out.2.2.below bC⟩
          have hS : MacAt wC3 S2 m1 := HP.out.2.1
          clear bC
          go_wp2
          refine ⟨rfl, hK _ _ hS ?_⟩
          clear hK K
          refine MixH.take 3 8 _ (.agg (opC (op7 4))) rfl (by kernel_rfl) (by kernel_rfl) (by kernel_rfl) (by kernel_rfl) (yields_bo1 1 8 (.tmp 19) rfl rfl rfl) hS (fun a' ha => ?_)
          simp only [Act.put, List.setIfInBounds_toArray, List.set_cons_succ, List.set_cons_zero] at ha
          subst ha
          refine MixH.take 2 11 _ (.agg C7) rfl (by kernel_rfl) (by kernel_rfl) (by kernel_rfl) (by kernel_rfl) (yields_b7 (.tmp 13) (.tmp 14) (.tmp 15) (.tmp 18) (.tmp 20) (.tmp 21) (.tmp 22) rfl rfl rfl rfl rfl rfl rfl rfl rfl) hS (fun a' ha => ?_)
          simp only [Act.put, List.setIfInBounds_toArray, List.set_cons_succ, List.set_cons_zero] at ha
          subst ha
          refine MixH.one [false, false, false, false, false, false, false, false, false, false, false, false, true] 1 12 _ rfl rfl (by kernel_rfl) (by kernel_rfl) (fun K hK => ?_)
          simp only [Mix.pick]
          obtain ⟨D4, hD⟩ : ∃ D, D = wC3.heap.size := ⟨_, rfl⟩
          obtain ⟨wV4, hV⟩ : ∃ V, V = wC3.alloc (.cells C70 121) := ⟨_, rfl⟩
          have bV : Below wC3.heap.size wC3 wV4 := by rw [hV]; exact (Below.refl _ _).alloc (Nat.le_refl _) _
          have HVE : Hid (wC3.heap.size = D4 ∧ wC3.alloc (.cells C70 121) = wV4) := ⟨hD.symm, hV.symm⟩
          have HP : Hid (SdvAt wV4 S (some ⟨t, 0, none⟩) ⟨c7, none, 0, 0⟩ ∧ MacAt wV4 S2 m1 ∧ SS w t M c7 [] ⟨c7, none, 0, 0⟩ [] wV4 ∧ OarAt wV4 D4 C70 ∧ S2 < D4) := ⟨HP.out.1.below bV, HP.out.2.1.below bV, HP.out.2.2.below bV, by rw [hV, hD]; exact heap_alloc_new _ _, by rw [hD]; exact HP.out.2.1.lt⟩
          have hS : MacAt wV4 S2 m1 := HP.out.2.1
          clear hV hD bV
          refine wpList_alloc_oar rfl rfl ?_
          rw [HVE.out.1, HVE.out.2]
          simp only [Act.put, List.setIfInBounds_toArray, List.set_cons_succ, List.set_cons_zero]
          go_wp2
          refine ⟨rfl, hK _ _ hS ?_⟩
          clear hK K HVE
          refine MixH.one [false, false, false, false, false, false, false, false, false, false, false, false, false, true] 0 13 _ rfl rfl (by kernel_rfl) (by kernel_rfl) (fun K hK => ?_)
          simp only [Mix.pick]
          refine wpList_store_oar (.tmp 4) (.tmp 23) rfl rfl D4 rfl rfl HP.out.2.2.2.1 rfl ?_
          intro wE hE kE
          have HE : Hid (SdvAt wE S (some ⟨t, 0, none⟩) ⟨c7, none, 0, 0⟩ ∧ OarAt wE D4 C7 ∧ SS w t M c7 [] ⟨c7, none, 0, 0⟩ [] wE ∧ S2 < D4) := ⟨HP.out.1.ch kE (by have := HP.out.2.2.2.2; have := HSS.out; omega), hE, HP.out.2.2.1.ch kE (fun q hq e => by have e' : q = D4 := e; have := HP.out.2.2.2.2; have := HSS.out; have := HTM.out q hq; omega) (fun q e => by have e' : q = D4 := e; have := HP.out.2.2.2.2; have := HSS.out; omega), HP.out.2.2.2.2⟩
          have hS : MacAt wE S2 m1 := HP.out.2.1.ch kE (by have := HP.out.2.2.2.2; omega)
          clear hE kE
          go_wp2
          refine ⟨rfl, hK _ _ hS ?_⟩
          clear hK K
          refine MixH.done (by kernel_rfl) ?_
          go_wp2_with fail
          go_meet
          exact ⟨D4, rfl, HE⟩
        · simp only [Mix.pick]
          obtain ⟨D3, hD⟩ : ∃ D, D = wC2.heap.size := ⟨_, rfl⟩
          obtain ⟨wV3, hV⟩ : ∃ V, V = wC2.alloc (.cells C70 121) := ⟨_, rfl⟩
          have bV : Below wC2.heap.size wC2 wV3 := by rw [hV]; exact (Below.refl _ _).alloc (Nat.le_refl _) _
          have HVE : Hid (wC2.heap.size = D3 ∧ wC2.alloc (.cells C70 121) = wV3) := ⟨hD.symm, hV.symm⟩
          have HP : Hid (SdvAt wV3 S (some ⟨t, 0, none⟩) ⟨c7, none, 0, 0⟩ ∧ MacAt wV3 S2 m1 ∧ SS w t M c7 [] ⟨c7, none, 0, 0⟩ [] wV3 ∧ OarAt wV3 D3 C70 ∧ S2 < D3) := ⟨HP.out.1.below bV, HP.out.2.1.below bV, HP.out.2.2.below bV, by rw [hV, hD]; exact heap_alloc_new _ _, by rw [hD]; exact HP.out.2.1.lt⟩
          have hS : MacAt wV3 S2 m1 := HP.out.2.1
          clear hV hD bV
          refine wpList_alloc_oar rfl rfl ?_
          rw [HVE.out.1, HVE.out.2]
          simp only [Act.put, List.setIfInBounds_toArray, List.set_cons_succ, List.set_cons_zero]
          go_wp2
          refine ⟨rfl, hK _ _ hS ?_⟩
          clear hK K HVE
          refine MixH.one [false, false, false, false, false, false, false, true] 3 7 _ rfl rfl (by kernel_rfl) (by kernel_rfl) (fun K hK => ?_)
          simp only [Mix.pick]
          go_wp2_with fail
          refine Calls.mono (QI.out wV3) ?_
          rintro r wC5 ⟨rfl, bC⟩
          have HP : Hid (SdvAt wC5 S (some ⟨t, 0, none⟩) ⟨c7, none, 0, 0⟩ ∧ MacAt wC5 S2 m1 ∧ SS w t M c7 [] ⟨c7, none, 0, 0⟩ [] wC5 ∧ OarAt wC5 D3 C70 ∧ S2 < D3) := ⟨HP.out.1.below bC, HP.out.2.1.below bC, HP.out.2.2.1.below bC, HP.out.2.2.2.1.below bC, HP.out.2.2.2.2⟩
          have hS : MacAt wC5 S2 m1 := HP.out.2.1
          clear bC
          go_wp2
          refine ⟨rfl, hK _ _ hS ?_⟩
          clear hK K
          refine MixH.take 2 8 _ (.agg (opC (op7 4))) rfl (by kernel_rfl) (by kernel_rfl) (by kernel_rfl) (by kernel_rfl) (yields_bo1 1 8 (.tmp 19) rfl rfl rfl) hS (fun a' ha => ?_)
          simp only [Act.put, List.setIfInBounds_toArray, List.set_cons_succ, List.set_cons_zero] at ha
          subst ha
          refine MixH.take 1 11 _ (.agg C7) rfl (by kernel_rfl) (by kernel_rfl) (by kernel_rfl) (by kernel_rfl) (yields_b7 (.tmp 13) (.tmp 14) (.tmp 15) (.tmp 18) (.tmp 20) (.tmp 21) (.tmp 22) rfl rfl rfl rfl rfl rfl rfl rfl rfl) hS (fun a' ha => ?_)
          simp only [Act.put, List.setIfInBounds_toArray, List.set_cons_succ, List.set_cons_zero] at ha
          subst ha
          refine MixH.one [false, false, false, false, false, false, false, false, false, false, false, false, false, true] 0 13 _ rfl rfl (by kernel_rfl) (by kernel_rfl) (fun K hK => ?_)
          simp only [Mix.pick]
          refine wpList_store_oar (.tmp 4) (.tmp 23) rfl rfl D3 rfl rfl HP.out.2.2.2.1 rfl ?_
          intro wE hE kE
          have HE : Hid (SdvAt wE S (some ⟨t, 0, none⟩) ⟨c7, none, 0, 0⟩ ∧ OarAt wE D3 C7 ∧ SS w t M c7 [] ⟨c7, none, 0, 0⟩ [] wE ∧ S2 < D3) := ⟨HP.out.1.ch kE (by have := HP.out.2.2.2.2; have := HSS.out; omega), hE, HP.out.2.2.1.ch kE (fun q hq e => by have e' : q = D3 := e; have := HP.out.2.2.2.2; have := HSS.out; have := HTM.out q hq; omega) (fun q e => by have e' : q = D3 := e; have := HP.out.2.2.2.2; have := HSS.out; omega), HP.out.2.2.2.2⟩
          have hS : MacAt wE S2 m1 := HP.out.2.1.ch kE (by have := HP.out.2.2.2.2; omega)
          clear hE kE
          go_wp2
          refine ⟨rfl, hK _ _ hS ?_⟩
          clear hK K
          refine MixH.done (by kernel_rfl) ?_
          go_wp2_with fail
          go_meet
          exact ⟨D3, rfl, HE⟩
      · simp only [Mix.pick]
        obtain ⟨D2, hD⟩ : ∃ D, D = wC1.heap.size := ⟨_, rfl⟩
        obtain ⟨wV2, hV⟩ : ∃ V, V = wC1.alloc (.cells C70 121) := ⟨_, rfl⟩
        have bV : Below wC1.heap.size wC1 wV2 := by rw [hV]; exact (Below.refl _ _).alloc (Nat.le_refl _) _
        have HVE : Hid (wC1.heap.size = D2 ∧ wC1.alloc (.cells C70 121) = wV2) := ⟨hD.symm, hV.symm⟩
        have HP : Hid (SdvAt wV2 S (some ⟨t, 0, none⟩) ⟨c7, none, 0, 0⟩ ∧ MacAt wV2 S2 m1 ∧ SS w t M c7 [] ⟨c7, none, 0, 0⟩ [] wV2 ∧ OarAt wV2 D2 C70 ∧ S2 < D2) := ⟨HP.out.1.below bV, HP.out.2.1.below bV, HP.out.2.2.below bV, by rw [hV, hD]; exact heap_alloc_new _ _, by rw [hD]; exact HP.out.2.1.lt⟩
        have hS : MacAt wV2 S2 m1 := HP.out.2.1
        clear hV hD bV
        refine wpList_alloc_oar rfl rfl ?_
        rw [HVE.out.1, HVE.out.2]
        simp only [Act.put, List.setIfInBounds_toArray, List.set_cons_succ, List.set_cons_zero]
        go_wp2
        refine ⟨rfl, hK _ _ hS ?_⟩
        clear hK K HVE
        refine MixH.one [false, false, false, false, true] 5 4 _ rfl rfl (by kernel_rfl) (by kernel_rfl) (fun K hK => ?_)
        simp only [Mix.pick]
        go_wp2_with fail
        refine Calls.mono (QI.out wV2) ?_
        rintro r wC7 ⟨rfl, bC⟩
        have HP : Hid (SdvAt wC7 S (some ⟨t, 0, none⟩) ⟨c7, none, 0, 0⟩ ∧ MacAt wC7 S2 m1 ∧ SS w t M c7 [] ⟨c7, none, 0, 0⟩ [] wC7 ∧ OarAt wC7 D2 C70 ∧ S2 < D2) := ⟨HP.out.1.below bC, HP.out.2.1.below bC, HP.out.2.2.1.below bC, HP.out.2.2.2.1.below bC, HP.out.2.2.2.2⟩
        have hS : MacAt wC7 S2 m1 := HP.out.2.1
        clear bC
        go_wp2
        refine ⟨rfl, hK _ _ hS ?_⟩
        clear hK K
        refine MixH.take 4 6 _ (.agg (opC (op7 3))) rfl (by kernel_rfl) (by kernel_rfl) (by kernel_rfl) (by kernel_rfl) (yields_bo2 2 1 (.tmp 16) (.tmp 17) rfl rfl rfl rfl) hS (fun a' ha => ?_)
        simp only [Act.put, List.setIfInBounds_toArray, List.set_cons_succ, List.set_cons_zero] at ha
        subst ha
        refine MixH.one [false, false, false, false, false, false, false, true] 3 7 _ rfl rfl (by kernel_rfl) (by kernel_rfl) (fun K hK => ?_)
        simp only [Mix.pick]
        go_wp2_with fail
        refine Calls.mono (QI.out wC7) ?_
        rintro r wC8 ⟨rfl, bC⟩
        have HP : Hid (SdvAt wC8 S (some ⟨t, 0, none⟩) ⟨c7, none, 0, 0⟩ ∧ MacAt wC8 S2 m1 ∧ SS w t M c7 [] ⟨c7, none, 0, 0⟩ [] wC8 ∧ OarAt wC8 D2 C70 ∧ S2 < D2) := ⟨HP.out.1.below bC, HP.out.2.1.below bC, HP.out.2.2.1.below bC, HP.out.2.2.2.1.below bC, HP.out.2.2.2.2⟩
        have hS : MacAt wC8 S2 m1 := HP.out.2.1
        clear bC
        go_wp2
        refine ⟨rfl, hK _ _ hS ?_⟩
        clear hK K
        refine MixH.take 2 8 _ (.agg (opC (op7 4))) rfl (by kernel_rfl) (by kernel_rfl) (by kernel_rfl) (by kernel_rfl) (yields_bo1 1 8 (.tmp 19) rfl rfl rfl) hS (fun a' ha => ?_)
        simp only [Act.put, List.setIfInBounds_toArray, List.set_cons_succ, List.set_cons_zero] at ha
        subst ha
        refine MixH.take 1 11 _ (.agg C7) rfl (by kernel_rfl) (by kernel_rfl) (by kernel_rfl) (by kernel_rfl) (yields_b7 (.tmp 13) (.tmp 14) (.tmp 15) (.tmp 18) (.tmp 20) (.tmp 21) (.tmp 22) rfl rfl rfl rfl rfl rfl rfl rfl rfl) hS (fun a' ha => ?_)
        simp only [Act.put, List.setIfInBounds_toArray, List.set_cons_succ, List.set_cons_zero] at ha
        subst ha
        refine MixH.one [false, false, false, false, false, false, false, false, false, false, false, false, false, true] 0 13 _ rfl rfl (by kernel_rfl) (by kernel_rfl) (fun K hK => ?_)
        simp only [Mix.pick]
        refine wpList_store_oar (.tmp 4) (.tmp 23) rfl rfl D2 rfl rfl HP.out.2.2.2.1 rfl ?_
        intro wE hE kE
        have HE : Hid (SdvAt wE S (some ⟨t, 0, none⟩) ⟨c7, none, 0, 0⟩ ∧ OarAt wE D2 C7 ∧ SS w t M c7 [] ⟨c7, none, 0, 0⟩ [] wE ∧ S2 < D2) := ⟨HP.out.1.ch kE (by have := HP.out.2.2.2.2; have := HSS.out; omega), hE, HP.out.2.2.1.ch kE (fun q hq e => by have e' : q = D2 := e; have := HP.out.2.2.2.2; have := HSS.out; have := HTM.out q hq; omega) (fun q e => by have e' : q = D2 := e; have := HP.out.2.2.2.2; have := HSS.out; omega), HP.out.2.2.2.2⟩
        have hS : MacAt wE S2 m1 := HP.out.2.1.ch kE (by have := HP.out.2.2.2.2; omega)
        clear hE kE
        go_wp2
        refine ⟨rfl, hK _ _ hS ?_⟩
        clear hK K
        refine MixH.done (by kernel_rfl) ?_
        go_wp2_with fail
        go_meet
        exact ⟨D2, rfl, HE⟩
    · simp only [Mix.pick]
      obtain ⟨D1, hD⟩ : ∃ D, D = wA.heap.size := ⟨_, rfl⟩
      obtain ⟨wV1, hV⟩ : ∃ V, V = wA.alloc (.cells C70 121) := ⟨_, rfl⟩
      have bV : Below wA.heap.size wA wV1 := by rw [hV]; exact (Below.refl _ _).alloc (Nat.le_refl _) _
      have HVE : Hid (wA.heap.size = D1 ∧ wA.alloc (.cells C70 121) = wV1) := ⟨hD.symm, hV.symm⟩
      have HP : Hid (SdvAt wV1 S (some ⟨t, 0, none⟩) ⟨c7, none, 0, 0⟩ ∧ MacAt wV1 S2 m1 ∧ SS w t M c7 [] ⟨c7, none, 0, 0⟩ [] wV1 ∧ OarAt wV1 D1 C70 ∧ S2 < D1) := ⟨HP.out.1.below bV, HP.out.2.1.below bV, HP.out.2.2.below bV, by rw [hV, hD]; exact heap_alloc_new _ _, by rw [hD]; exact HP.out.2.1.lt⟩
      have hS : MacAt wV1 S2 m1 := HP.out.2.1
      clear hV hD bV
      refine wpList_alloc_oar rfl rfl ?_
      rw [HVE.out.1, HVE.out.2]
      simp only [Act.put, List.setIfInBounds_toArray, List.set_cons_succ, List.set_cons_zero]
      go_wp2
      refine ⟨rfl, hK _ _ hS ?_⟩
      clear hK K HVE
      refine MixH.one [true] 7 0 _ rfl rfl (by kernel_rfl) (by kernel_rfl) (fun K hK => ?_)
      simp only [Mix.pick]
      go_wp2_with fail
      refine Calls.mono (QI.out wV1) ?_
      rintro r wC10 ⟨rfl, bC⟩
      have HP : Hid (SdvAt wC10 S (some ⟨t, 0, none⟩) ⟨c7, none, 0, 0⟩ ∧ MacAt wC10 S2 m1 ∧ SS w t M c7 [] ⟨c7, none, 0, 0⟩ [] wC10 ∧ OarAt wC10 D1 C70 ∧ S2 < D1) := ⟨HP.out.1.below bC, HP.out.2.1.below bC, HP.out.2.2.1.below bC, HP.out.2.2.2.1.below bC, HP.out.2.2.2.2⟩
      have hS : MacAt wC10 S2 m1 := HP.out.2.1
      clear bC
      go_wp2
      refine ⟨rfl, hK _ _ hS ?_⟩
      clear hK K
      refine MixH.take 6 1 _ (.agg (opC (op7 0))) rfl (by kernel_rfl) (by kernel_rfl) (by kernel_rfl) (by kernel_rfl) (yields_bo1 1 7 (.tmp 12) rfl rfl rfl) hS (fun a' ha => ?_)
      simp only [Act.put, List.setIfInBounds_toArray, List.set_cons_succ, List.set_cons_zero] at ha
      subst ha
      refine MixH.one [false, false, false, false, true] 5 4 _ rfl rfl (by kernel_rfl) (by kernel_rfl) (fun K hK => ?_)
      simp only [Mix.pick]
      go_wp2_with fail
      refine Calls.mono (QI.out wC10) ?_
      rintro r wC11 ⟨rfl, bC⟩
      have HP : Hid (SdvAt wC11 S (some ⟨t, 0, none⟩) ⟨c7, none, 0, 0⟩ ∧ MacAt wC11 S2 m1 ∧ SS w t M c7 [] ⟨c7, none, 0, 0⟩ [] wC11 ∧ OarAt wC11 D1 C70 ∧ S2 < D1) := ⟨HP.out.1.below bC, HP.out.2.1.below bC, HP.out.2.2.1.below bC, HP.out.2.2.2.1.below bC, HP.out.2.2.2.2⟩
      have hS : MacAt wC11 S2 m1 := HP.out.2.1
      clear bC
      go_wp2
      refine ⟨rfl, hK _ _ hS ?_⟩
      clear hK K
      refine MixH.take 4 6 _ (.agg (opC (op7 3))) rfl (by kernel_rfl) (by kernel_rfl) (by kernel_rfl) (by kernel_rfl) (yields_bo2 2 1 (.tmp 16) (.tmp 17) rfl rfl rfl rfl) hS (fun a' ha => ?_)
      simp only [Act.put, List.setIfInBounds_toArray, List.set_cons_succ, List.set_cons_zero] at ha
      subst ha
      refine MixH.one [false, false, false, false, false, false, false, true] 3 7 _ rfl rfl (by kernel_rfl) (by kernel_rfl) (fun K hK => ?_)
      simp only [Mix.pick]
      go_wp2_with fail
      refine Calls.mono (QI.out wC11) ?_
      rintro r wC12 ⟨rfl, bC⟩
      have HP : Hid (SdvAt wC12 S (some ⟨t, 0, none⟩) ⟨c7, none, 0, 0⟩ ∧ MacAt wC12 S2 m1 ∧ SS w t M c7 [] ⟨c7, none, 0, 0⟩ [] wC12 ∧ OarAt wC12 D1 C70 ∧ S2 < D1) := ⟨HP.out.1.below bC, HP.out.2.1.below bC, HP.out.2.2.1.below bC, HP.out.2.2.2.1.below bC, HP.out.2.2.2.2⟩
      have hS : MacAt wC12 S2 m1 := HP.out.2.1
      clear bC
      go_wp2
      refine ⟨rfl, hK _ _ hS ?_⟩
      clear hK K
      refine MixH.take 2 8 _ (.agg (opC (op7 4))) rfl (by kernel_rfl) (by kernel_rfl) (by kernel_rfl) (by kernel_rfl) (yields_bo1 1 8 (.tmp 19) rfl rfl rfl) hS (fun a' ha => ?_)
      simp only [Act.put, List.setIfInBounds_toArray, List.set_cons_succ, List.set_cons_zero] at ha
      subst ha
      refine MixH.take 1 11 _ (.agg C7) rfl (by kernel_rfl) (by kernel_rfl) (by kernel_rfl) (by kernel_rfl) (yields_b7 (.tmp 13) (.tmp 14) (.tmp 15) (.tmp 18) (.tmp 20) (.tmp 21) (.tmp 22) rfl rfl rfl rfl rfl rfl rfl rfl rfl) hS (fun a' ha => ?_)
      simp only [Act.put, List.setIfInBounds_toArray, List.set_cons_succ, List.set_cons_zero] at ha
      subst ha
      refine MixH.one [false, false, false, false, false, false, false, false, false, false, false, false, false, true] 0 13 _ rfl rfl (by kernel_rfl) (by kernel_rfl) (fun K hK => ?_)
      simp only [Mix.pick]
      refine wpList_store_oar (.tmp 4) (.tmp 23) rfl rfl D1 rfl rfl HP.out.2.2.2.1 rfl ?_
      intro wE hE kE
      have HE : Hid (SdvAt wE S (some ⟨t, 0, none⟩) ⟨c7, none, 0, 0⟩ ∧ OarAt wE D1 C7 ∧ SS w t M c7 [] ⟨c7, none, 0, 0⟩ [] wE ∧ S2 < D1) := ⟨HP.out.1.ch kE (by have := HP.out.2.2.2.2; have := HSS.out; omega), hE, HP.out.2.2.1.ch kE (fun q hq e => by have e' : q = D1 := e; have := HP.out.2.2.2.2; have := HSS.out; have := HTM.out q hq; omega) (fun q e => by have e' : q = D1 := e; have := HP.out.2.2.2.2; have := HSS.out; omega), HP.out.2.2.2.2⟩
      have hS : MacAt wE S2 m1 := HP.out.2.1.ch kE (by have := HP.out.2.2.2.2; omega)
      clear hE kE
      go_wp2
      refine ⟨rfl, hK _ _ hS ?_⟩
      clear hK K
      refine MixH.done (by kernel_rfl) ?_
      go_wp2_with fail
      go_meet
      exact ⟨D1, rfl, HE⟩
  case rest =>
    obtain ⟨D, rfl, H4⟩ := hcut
    clear HQ QI
    have HQ0 : Hid (SdvAt wc S (some ⟨t, 0, none⟩) ⟨c7, none, 0, 0⟩ ∧ OarAt wc D C7 ∧ SS w t M c7 [] ⟨c7, none, 0, 0⟩ [] wc ∧ (∀ q, SB t M [] ⟨c7, none, 0, 0⟩ [] q → q ≠ S ∧ q ≠ D) ∧ S < wc.heap.size ∧ D < wc.heap.size ∧ NS [] = ns7 0) := ⟨H4.out.1, H4.out.2.1, H4.out.2.2.1, fun q hq => by have := HTM.out q hq; have := H4.out.2.2.2; have := HSS.out; exact ⟨by omega, by omega⟩, H4.out.1.lt, H4.out.2.1.lt, rfl⟩
    have HSD : Hid (w.heap.size ≤ S ∧ S < D) := by have := HSS.out; have := H4.out.2.2.2; exact ⟨by omega, by omega⟩
    clear H4 HTM
    go_wp2_with fail
    go_loopw [2, 5] (fun kx ix wr => ∃ i : Nat, kx = .bool true ∧ ix = .int .i64 (i : Int) ∧ i ≤ 7 ∧ Hid (∃ E rc R, SdvAt wr S (some ⟨t, 0, none⟩) rc ∧ OarAt wr D C7 ∧ SS w t M c7 E rc R wr ∧ (∀ q, SB t M E rc R q → q ≠ S ∧ q ≠ D) ∧ S < wr.heap.size ∧ D < wr.heap.size ∧ NS R = ns7 i)) (fun _ ix _ => 7 - (intOf ix).toNat)
    case atStart => exact ⟨0, rfl, rfl, by omega, ⟨[], ⟨c7, none, 0, 0⟩, [], HQ0.out⟩⟩
    case round =>
      obtain ⟨i, rfl, rfl, hi, HQ⟩ := hrel
      clear HQ0
      by_cases hlt : i < 7
      · have k0 : (0 : Int) ≤ (i : Int) := by omega
        have k1 : (i : Int) < 7 := by omega
        have k2 : ((i : Int)).toNat = i := by omega
        have wi : IntKind.i64.wrap ((i : Int) + 1) = (i : Int) + 1 := by rw [IntKind.wrap_i64]; omega
        have HLT : Hid (i < 7) := hlt
        obtain ⟨E, rc, R, hq1, hq2, hq3, hq4, hq5, hq6, hq7⟩ := HQ.out
        have HQ1 : Hid (SdvAt wr S (some ⟨t, 0, none⟩) rc ∧ OarAt wr D C7 ∧ SS w t M c7 E rc R wr ∧ (∀ q, SB t M E rc R q → q ≠ S ∧ q ≠ D) ∧ S < wr.heap.size ∧ D < wr.heap.size ∧ NS R = ns7 i) := ⟨hq1, hq2, hq3, hq4, hq5, hq6, hq7⟩
        clear hq1 hq2 hq3 hq4 hq5 hq6 hq7 HQ hi
        go_upto_region 7 with fail
        refine MixH.start (fun _ => True) (by kernel_rfl) ?_
        obtain ⟨wA, hwA⟩ : ∃ wA, wA = wr.drew := ⟨_, rfl⟩
        have bdr : Below wr.heap.size wr wA := by rw [hwA]; exact (Below.refl _ _).drew
        have HA : Hid (SdvAt wA S (some ⟨t, 0, none⟩) rc ∧ OarAt wA D C7 ∧ SS w t M c7 E rc R wA ∧ (∀ q, SB t M E rc R q → q ≠ S ∧ q ≠ D) ∧ S < wA.heap.size ∧ D < wA.heap.size ∧ NS R = ns7 i) := ⟨HQ1.out.1.below bdr, HQ1.out.2.1.below bdr, HQ1.out.2.2.1.below bdr, HQ1.out.2.2.2.1, Nat.lt_of_lt_of_le HQ1.out.2.2.2.2.1 bdr.size, Nat.lt_of_lt_of_le HQ1.out.2.2.2.2.2.1 bdr.size, HQ1.out.2.2.2.2.2.2⟩
        have QS : Hid _ := step_any w t M c7 E rc R (op7 i) (op7_ok i) wA HA.out.2.2.1
        rw [← hwA]
        clear hwA bdr HQ1
        refine MixH.takes [false, true] 9 (by kernel_rfl) (by kernel_rfl) (by decide) (by kernel_rfl) trivial (fun K hK => ?_)
        simp only [Mix.pick]
        repeat (go_big_quiet_step (fail))
        refine wpQuiet_nil (hK _ ?_)
        clear hK K
        refine MixH.takes [false, false, true] 8 (by kernel_rfl) (by kernel_rfl) (by decide) (by kernel_rfl) trivial (fun K hK => ?_)
        simp only [Mix.pick]
        repeat (go_big_quiet_step (fail))
        refine wpQuiet_nil (hK _ ?_)
        clear hK K
        refine MixH.pair [true] [false, false, false, true] 7 0 3 _ _ rfl rfl rfl rfl (by kernel_rfl) (by kernel_rfl) (fun K hK => ?_) (fun K hK => ?_)
        · simp only [Mix.pick]
          refine wpList_load_sdv (.tmp 1) rfl S (some ⟨t, 0, none⟩) rc rfl HA.out.1 rfl ?_
          go_wp2
          refine ⟨rfl, hK _ _ trivial ?_⟩
          clear hK K
          refine MixH.one [false, false, false, true] 6 3 _ rfl rfl (by kernel_rfl) (by kernel_rfl) (fun K hK => ?_)
          simp only [Mix.pick]
          refine wpList_mid_opv (.tmp 34) rfl D (i * 27) (op7 i) rfl (HA.out.2.1.at i HLT.out) rfl ?_
          go_wp2
          refine ⟨rfl, hK _ _ trivial ?_⟩
          clear hK K
          refine MixH.one [false, false, false, false, true] 5 4 _ rfl rfl (by kernel_rfl) (by kernel_rfl) (fun K hK => ?_)
          simp only [Mix.pick]
          go_wp2_with fail
          refine Calls.mono QS.out ?_
          rintro r wB ⟨E', rc', R', rfl, hst, hSS, hch, hsb⟩
          have hap : ∀ q, SB t M E' rc' R' q → q ≠ S ∧ q ≠ D := fun q hq => by
            rcases hsb q hq with g | g
            · exact HA.out.2.2.2.1 q g
            · have := HA.out.2.2.2.2.1
              have := HA.out.2.2.2.2.2.1
              exact ⟨by omega, by omega⟩
          have HB : Hid (SdvAt wB S (some ⟨t, 0, none⟩) rc ∧ OarAt wB D C7 ∧ SS w t M c7 E' rc' R' wB ∧ (∀ q, SB t M E' rc' R' q → q ≠ S ∧ q ≠ D) ∧ S < wB.heap.size ∧ D < wB.heap.size ∧ NS R' = ns7 (i + 1)) := ⟨HA.out.1.ch hch (fun s => (HA.out.2.2.2.1 S (.inl s)).1 rfl), HA.out.2.1.ch hch (fun s => (HA.out.2.2.2.1 D (.inl s)).2 rfl), hSS, hap, Nat.lt_of_lt_of_le HA.out.2.2.2.2.1 hch.size, Nat.lt_of_lt_of_le HA.out.2.2.2.2.2.1 hch.size, step7 i HLT.out hst HA.out.2.2.2.2.2.2⟩
          clear hst hSS hch hsb HA QS hap
          go_wp2
          refine ⟨rfl, hK _ _ trivial ?_⟩
          clear hK K
          refine MixH.takes [false, false, false, false, false, true] 4 (by kernel_rfl) (by kernel_rfl) (by decide) (by kernel_rfl) trivial (fun K hK => ?_)
          simp only [Mix.pick]
          repeat (go_big_quiet_step (fail))
          refine wpQuiet_nil (hK _ ?_)
          clear hK K
          refine MixH.takes [false, false, false, false, false, false, true, true] 2 (by kernel_rfl) (by kernel_rfl) (by decide) (by kernel_rfl) trivial (fun K hK => ?_)
          simp only [Mix.pick]
          repeat (go_big_quiet_step (fail))
          refine wpQuiet_nil (hK _ ?_)
          clear hK K
          refine MixH.one [false, false, false, false, false, false, false, false, true] 1 8 _ rfl rfl (by kernel_rfl) (by kernel_rfl) (fun K hK => ?_)
          simp only [Mix.pick]
          refine wpList_store_sdv (.tmp 1) (.tmp 37) rfl rfl S (some ⟨t, 0, none⟩) rc (some ⟨t, 0, none⟩) rc' rfl rfl HB.out.1 rfl ?_
          intro wE hE kE
          have HC : Hid (SdvAt wE S (some ⟨t, 0, none⟩) rc' ∧ OarAt wE D C7 ∧ SS w t M c7 E' rc' R' wE ∧ (∀ q, SB t M E' rc' R' q → q ≠ S ∧ q ≠ D) ∧ S < wE.heap.size ∧ D < wE.heap.size ∧ NS R' = ns7 (i + 1)) := ⟨hE, HB.out.2.1.ch kE (by have := HSD.out; omega), HB.out.2.2.1.ch kE (fun q hq e => (HB.out.2.2.2.1 q hq).1 e) (fun q e => by have e' : q = S := e; have := HSD.out; omega), HB.out.2.2.2.1, Nat.lt_of_lt_of_le HB.out.2.2.2.2.1 kE.size, Nat.lt_of_lt_of_le HB.out.2.2.2.2.2.1 kE.size, HB.out.2.2.2.2.2.2⟩
          clear hE kE HB
          go_wp2
          refine ⟨rfl, hK _ _ trivial ?_⟩
          clear hK K
          refine MixH.takes [false, false, false, false, false, false, false, false, false, true] 0 (by kernel_rfl) (by kernel_rfl) (by decide) (by kernel_rfl) trivial (fun K hK => ?_)
          simp only [Mix.pick]
          repeat (go_big_quiet_step (fail))
          refine wpQuiet_nil (hK _ ?_)
          clear hK K
          refine MixH.done (by kernel_rfl) ?_
          go_wp2_with fail
          go_roundw
          case rel => exact ⟨i + 1, rfl, by first | rfl | go_num, by have := HLT.out; omega, ⟨E', rc', R', HC.out⟩⟩
          case measure => have := HLT.out; simp [intOf]; omega
        · simp only [Mix.pick]
          refine wpList_mid_opv (.tmp 34) rfl D (i * 27) (op7 i) rfl (HA.out.2.1.at i HLT.out) rfl ?_
          go_wp2
          refine ⟨rfl, hK _ _ trivial ?_⟩
          clear hK K
          refine MixH.one [true] 6 0 _ rfl rfl (by kernel_rfl) (by kernel_rfl) (fun K hK => ?_)
          simp only [Mix.pick]
          refine wpList_load_sdv (.tmp 1) rfl S (some ⟨t, 0, none⟩) rc rfl HA.out.1 rfl ?_
          go_wp2
          refine ⟨rfl, hK _ _ trivial ?_⟩
          clear hK K
          refine MixH.one [false, false, false, false, true] 5 4 _ rfl rfl (by kernel_rfl) (by kernel_rfl) (fun K hK => ?_)
          simp only [Mix.pick]
          go_wp2_with fail
          refine Calls.mono QS.out ?_
          rintro r wB ⟨E', rc', R', rfl, hst, hSS, hch, hsb⟩
          have hap : ∀ q, SB t M E' rc' R' q → q ≠ S ∧ q ≠ D := fun q hq => by
            rcases hsb q hq with g | g
            · exact HA.out.2.2.2.1 q g
            · have := HA.out.2.2.2.2.1
              have := HA.out.2.2.2.2.2.1
              exact ⟨by omega, by omega⟩
          have HB : Hid (SdvAt wB S (some ⟨t, 0, none⟩) rc ∧ OarAt wB D C7 ∧ SS w t M c7 E' rc' R' wB ∧ (∀ q, SB t M E' rc' R' q → q ≠ S ∧ q ≠ D) ∧ S < wB.heap.size ∧ D < wB.heap.size ∧ NS R' = ns7 (i + 1)) := ⟨HA.out.1.ch hch (fun s => (HA.out.2.2.2.1 S (.inl s)).1 rfl), HA.out.2.1.ch hch (fun s => (HA.out.2.2.2.1 D (.inl s)).2 rfl), hSS, hap, Nat.lt_of_lt_of_le HA.out.2.2.2.2.1 hch.size, Nat.lt_of_lt_of_le HA.out.2.2.2.2.2.1 hch.size, step7 i HLT.out hst HA.out.2.2.2.2.2.2⟩
          clear hst hSS hch hsb HA QS hap
          go_wp2
          refine ⟨rfl, hK _ _ trivial ?_⟩
          clear hK K
          refine MixH.takes [false, false, false, false, false, true] 4 (by kernel_rfl) (by kernel_rfl) (by decide) (by kernel_rfl) trivial (fun K hK => ?_)
          simp only [Mix.pick]
          repeat (go_big_quiet_step (fail))
          refine wpQuiet_nil (hK _ ?_)
          clear hK K
          refine MixH.takes [false, false, false, false, false, false, true, true] 2 (by kernel_rfl) (by kernel_rfl) (by decide) (by kernel_rfl) trivial (fun K hK => ?_)
          simp only [Mix.pick]
          repeat (go_big_quiet_step (fail))
          refine wpQuiet_nil (hK _ ?_)
          clear hK K
          refine MixH.one [false, false, false, false, false, false, false, false, true] 1 8 _ rfl rfl (by kernel_rfl) (by kernel_rfl) (fun K hK => ?_)
          simp only [Mix.pick]
          refine wpList_store_sdv (.tmp 1) (.tmp 37) rfl rfl S (some ⟨t, 0, none⟩) rc (some ⟨t, 0, none⟩) rc' rfl rfl HB.out.1 rfl ?_
          intro wE hE kE
          have HC : Hid (SdvAt wE S (some ⟨t, 0, none⟩) rc' ∧ OarAt wE D C7 ∧ SS w t M c7 E' rc' R' wE ∧ (∀ q, SB t M E' rc' R' q → q ≠ S ∧ q ≠ D) ∧ S < wE.heap.size ∧ D < wE.heap.size ∧ NS R' = ns7 (i + 1)) := ⟨hE, HB.out.2.1.ch kE (by have := HSD.out; omega), HB.out.2.2.1.ch kE (fun q hq e => (HB.out.2.2.2.1 q hq).1 e) (fun q e => by have e' : q = S := e; have := HSD.out; omega), HB.out.2.2.2.1, Nat.lt_of_lt_of_le HB.out.2.2.2.2.1 kE.size, Nat.lt_of_lt_of_le HB.out.2.2.2.2.2.1 kE.size, HB.out.2.2.2.2.2.2⟩
          clear hE kE HB
          go_wp2
          refine ⟨rfl, hK _ _ trivial ?_⟩
          clear hK K
          refine MixH.takes [false, false, false, false, false, false, false, false, false, true] 0 (by kernel_rfl) (by kernel_rfl) (by decide) (by kernel_rfl) trivial (fun K hK => ?_)
          simp only [Mix.pick]
          repeat (go_big_quiet_step (fail))
          refine wpQuiet_nil (hK _ ?_)
          clear hK K
          refine MixH.done (by kernel_rfl) ?_
          go_wp2_with fail
          go_roundw
          case rel => exact ⟨i + 1, rfl, by first | rfl | go_num, by have := HLT.out; omega, ⟨E', rc', R', HC.out⟩⟩
          case measure => have := HLT.out; simp [intOf]; omega
      · have hni : ¬ ((i : Int) < 7) := by omega
        obtain rfl : i = 7 := by omega
        obtain ⟨E, rc, R, hq1, hq2, hq3, hq4, hq5, hq6, hq7⟩ := HQ.out
        have hlen : rc.n = 1 := by
          rw [← hq3.r.len]
          have := congrArg List.length hq7
          simpa [NS, ns7] using this
        have HE : Hid (Below w.heap.size w wr) := hq3.l.bel
        have c0 : wr.cell? ⟨S, 0, none⟩ = some (.pointer (some ⟨t, 0, none⟩)) := hq1.cell 0
        have c6 : wr.cell? ⟨S, 6, none⟩ = some (.slice rc.la 1 rc.lc) := by have h9 := hq1.cell 6; rw [h9, ← hlen]; rfl
        clear hq1 hq2 hq3 hq4 hq5 hq6 hq7 HQ hi hlt hlen hni
        go_wp2_with fail
        go_ret
        exact ⟨rfl, HE.out⟩
end Go.Proofs.Ytialefdojeddjaa
namespace Go.Proofs.Ytialefdojeddjaa
open Go.RowKit Go.Maps

theorem SS.back {W1 w x : World} {t M : Nat} {c : CF} {E : List EV} {rc : RC} {R : List RE} (h : SS W1 t M c E rc R x) (b : Below w.heap.size w W1) : SS w t M c E rc R x :=
  ⟨⟨h.l.ca, h.l.cf, h.l.ok, bthen b h.l.bel, fun q hq => Nat.le_trans b.size (h.l.out q hq)⟩, h.e2, h.r, h.cc, h.rep, h.ap, fun q hq => Nat.le_trans b.size (h.ol q hq)⟩
/-- two sides beside one another, each with its box -/
structure PL (w : World) (Pb Qb t M : Nat) (c : CF) (E : List EV) (rc : RC) (R : List RE) (rb : RC) (t2 M2 : Nat) (c2 : CF) (E2 : List EV) (rc2 : RC) (R2 : List RE) (rb2 : RC) (A : World) : Prop where
  p : SdvAt A Pb (some ⟨t, 0, none⟩) rb
  q : SdvAt A Qb (some ⟨t2, 0, none⟩) rb2
  sp : SS w t M c E rc R A
  sq : SS w t2 M2 c2 E2 rc2 R2 A
  ap : ∀ x, SB t M E rc R x → ¬ SB t2 M2 E2 rc2 R2 x
  np : ∀ x, SB t M E rc R x → x ≠ Pb ∧ x ≠ Qb
  nq : ∀ x, SB t2 M2 E2 rc2 R2 x → x ≠ Pb ∧ x ≠ Qb
  pq : Pb ≠ Qb
  pw : w.heap.size ≤ Pb
  qw : w.heap.size ≤ Qb
section
variable {w : World} {Pb Qb t M : Nat} {c : CF} {E : List EV} {rc : RC} {R : List RE} {rb : RC} {t2 M2 : Nat} {c2 : CF} {E2 : List EV} {rc2 : RC} {R2 : List RE} {rb2 : RC} {A A' : World}
theorem PL.below (h : PL w Pb Qb t M c E rc R rb t2 M2 c2 E2 rc2 R2 rb2 A) (b : Below A.heap.size A A') : PL w Pb Qb t M c E rc R rb t2 M2 c2 E2 rc2 R2 rb2 A' := ⟨h.p.below b, h.q.below b, h.sp.below b, h.sq.below b, h.ap, h.np, h.nq, h.pq, h.pw, h.qw⟩
theorem PL.swap (h : PL w Pb Qb t M c E rc R rb t2 M2 c2 E2 rc2 R2 rb2 A) : PL w Qb Pb t2 M2 c2 E2 rc2 R2 rb2 t M c E rc R rb A := ⟨h.q, h.p, h.sq, h.sp, fun x hx hy => h.ap x hy hx, fun x hx => ⟨(h.nq x hx).2, (h.nq x hx).1⟩, fun x hx => ⟨(h.np x hx).2, (h.np x hx).1⟩, fun e => h.pq e.symm, h.qw, h.pw⟩
theorem PL.step {E' : List EV} {rc' : RC} {R' : List RE} (h : PL w Pb Qb t M c E rc R rb t2 M2 c2 E2 rc2 R2 rb2 A) (hs : SS w t M c E' rc' R' A') (k : Ch (CB t M E) A A') (hq : ∀ q, SB t M E' rc' R' q → SB t M E rc R q ∨ A.heap.size ≤ q) : PL w Pb Qb t M c E' rc' R' rb t2 M2 c2 E2 rc2 R2 rb2 A' := by
  refine ⟨h.p.ch k (fun s => (h.np _ (.inl s)).1 rfl), h.q.ch k (fun s => (h.np _ (.inl s)).2 rfl), hs, h.sq.ch k (fun x hx s => h.ap x (.inl s) hx) (fun x s => h.sp.ge x (.inl s)), fun x hx hy => ?_, fun x hx => ?_, h.nq, h.pq, h.pw, h.qw⟩
  · rcases hq x hx with g | g
    · exact h.ap x g hy
    · have := h.sq.lt x hy; omega
  · rcases hq x hx with g | g
    · exact h.np x g
    · have h1 := h.p.lt
      have h2 := h.q.lt
      exact ⟨by omega, by omega⟩
theorem PL.put (h : PL w Pb Qb t M c E rc R rb t2 M2 c2 E2 rc2 R2 rb2 A) (k : Ch (fun q => q = Pb) A A') (hE : SdvAt A' Pb (some ⟨t, 0, none⟩) rc) : PL w Pb Qb t M c E rc R rc t2 M2 c2 E2 rc2 R2 rb2 A' :=
  ⟨hE, h.q.ch k (fun e => h.pq e.symm), h.sp.ch k (fun x hx e => (h.np x hx).1 e) (fun x e => by have e' : x = Pb := e; have := h.pw; omega), h.sq.ch k (fun x hx e => (h.nq x hx).1 e) (fun x e => by have e' : x = Pb := e; have := h.pw; omega), h.ap, h.np, h.nq, h.pq, h.pw, h.qw⟩
end
def c3 : CF := ⟨3, 2, 2, 3, 2⟩
theorem run_buildc3 (w : World) : (Instr.build 23 #[(0, .int .i64 3), (1, .int .i64 2), (2, .int .i64 2), (3, .int .i64 3), (4, .int .i64 2)]).run Try.prog w = .ok (.agg (cfC c3)) w := by kernel_rfl
theorem wpList_build_c3 {ops : Array Oper} {rest : List Oper} {o : Oper} {a : Act} {w : World} {Q : Exit → Act → World → Prop} (ho : o.op = .build 23 #[(0, .const (.int .i64 3)), (1, .const (.int .i64 2)), (2, .const (.int .i64 2)), (3, .const (.int .i64 3)), (4, .const (.int .i64 2))]) (hw : Region.wanted o (yielded ops a.tmps) = true)
    (h : wpList Try.prog ops Q rest (a.put o.dst (.agg (cfC c3))) w) : wpList Try.prog ops Q (o :: rest) a w := by
  refine wpList_step fun K hK => ?_
  rw [if_pos hw]
  have hrun : (execOp a.eval o).run Try.prog w = .ok (.value (.agg (cfC c3))) w := by
    unfold execOp
    simp only [ho, Sem.run_bind, List.map_toArray, List.map_cons, List.map_nil]
    have := run_buildc3 w
    simp only [show ∀ l, a.eval (.const l) = l from fun _ => rfl, this, Result.andThen_ok]
    rfl
  unfold Oper.wp
  rw [hrun]
  exact hK _ _ h
set_option maxHeartbeats 12800000 in
set_option maxRecDepth 100000 in
theorem plays_any (w : World) (c : CF) (a : Option Addr) (len cap : Nat) (ops : List OV) (lo hi : Int) (hl : ops.length = len) (hs : ListG 27 ocL OpOk w a ops) (hn : len ≤ 1048576) : Calls Try.prog 43 #[.agg (cfC c), .slice a len cap, .int .i64 lo, .int .i64 hi] w fun e w' => e = .returned (.bool true) ∧ Below w.heap.size w w' := by
  have HS : Hid (ListG 27 ocL OpOk w a ops ∧ ops.length = len ∧ len ≤ 1048576) := ⟨hs, hl, hn⟩
  clear hs hl hn
  have hb := cfg_new w c
  have bel : Below w.heap.size w (w.alloc (.cells (cfC c) 23)) := (Below.refl _ _).alloc (Nat.le_refl _) _
  obtain ⟨CX, hC⟩ : ∃ C, C = cfC c := ⟨_, rfl⟩
  obtain ⟨W, hW⟩ : ∃ W, W = w.alloc (.cells (cfC c) 23) := ⟨_, rfl⟩
  rw [← hW] at hb bel
  obtain ⟨B, hB⟩ : ∃ B, B = w.heap.size := ⟨_, rfl⟩
  rw [← hB] at hb
  have HBX : Hid (CfgAt W B c ∧ Below w.heap.size w W) := ⟨hb, bel⟩
  rw [← hC] at hW ⊢
  have HOX : Hid (w.heap.size = B) := hB.symm
  have HWX : Hid (w.alloc (.cells CX 23) = W) := hW.symm
  clear hb hW hB hC bel
  go_enter Try.func43, Try.ntmps43
  go_upto_region 1 with fail
  rw [HOX.out, HWX.out]
  go_wp2_with fail
  refine Calls.mono (started_any W) ?_
  rintro r w1 ⟨rfl, b1⟩
  have H1 : Hid (CfgAt w1 B c ∧ Below w.heap.size w w1) := ⟨HBX.out.1.below b1, bthen HBX.out.2 b1⟩
  clear b1 HBX HWX
  go_wp2_with (first | (refine wpList_load_cfg (.tmp 4) rfl B c rfl H1.out.1 rfl ?_))
  refine Calls.mono (made_any c w1) ?_
  obtain ⟨d, hd⟩ : ∃ d, d = cfD c := ⟨_, rfl⟩
  rw [← hd]
  clear hd
  rintro r w2 ⟨t, M, rfl, hSS⟩
  have hs2 := hSS.back H1.out.2
  obtain ⟨Pb, hP⟩ : ∃ D, D = w2.heap.size := ⟨_, rfl⟩
  obtain ⟨Z, hZ⟩ : ∃ Z, Z = w2.alloc (.cells (svC none rcz) 89) := ⟨_, rfl⟩
  have bZ : Below w2.heap.size w2 Z := by rw [hZ]; exact (Below.refl _ _).alloc (Nat.le_refl _) _
  have sZ : Z.heap.size = Pb + 1 := by rw [hZ, World.size_alloc, hP]
  have HZ : Hid (SdvAt Z Pb none rcz ∧ SS w t M d [] ⟨d, none, 0, 0⟩ [] Z ∧ Z.heap.size = Pb + 1 ∧ w.heap.size ≤ Pb ∧ ∀ x, SB t M [] ⟨d, none, 0, 0⟩ [] x → x < Pb) := ⟨by rw [hZ, hP]; exact sdv_new w2 none rcz, hs2.below bZ, sZ, by rw [hP]; exact hs2.l.bel.size, fun x hx => by rw [hP]; exact hs2.lt x hx⟩
  have HZE : Hid (w2.heap.size = Pb ∧ w2.alloc (.cells (svC none rcz) 89) = Z) := ⟨hP.symm, hZ.symm⟩
  clear hP hZ bZ sZ hSS hs2
  go_wp2_with (first | (refine wpList_alloc_sdv rfl rfl ?_; rw [HZE.out.1, HZE.out.2]; simp only [Act.put, List.setIfInBounds_toArray, List.set_cons_succ, List.set_cons_zero]) | (refine wpList_store_sdv (.tmp 10) (.tmp 20) rfl rfl Pb none rcz (some ⟨t, 0, none⟩) ⟨d, none, 0, 0⟩ rfl rfl HZ.out.1 rfl ?_))
  intro w3 h3 k3
  have H3 : Hid (SdvAt w3 Pb (some ⟨t, 0, none⟩) ⟨d, none, 0, 0⟩ ∧ SS w t M d [] ⟨d, none, 0, 0⟩ [] w3 ∧ Pb < w3.heap.size ∧ w.heap.size ≤ Pb ∧ ∀ x, SB t M [] ⟨d, none, 0, 0⟩ [] x → x < Pb) := ⟨h3, HZ.out.2.1.ch k3 (fun x hx e => by have e' : x = Pb := e; have := HZ.out.2.2.2.2 x hx; omega) (fun x e => by have e' : x = Pb := e; have := HZ.out.2.2.2.1; omega), h3.lt, HZ.out.2.2.2.1, HZ.out.2.2.2.2⟩
  clear h3 k3 HZ HZE H1
  go_wp2_with (first | (refine wpList_build_c3 rfl rfl ?_))
  refine Calls.mono (made_any c3 w3) ?_
  rw [show cfD c3 = c3 from rfl]
  rintro r w4 ⟨t2, M2, rfl, hSS⟩
  have hs2 := hSS.back H3.out.2.1.l.bel
  have b4 : Below w3.heap.size w3 w4 := hSS.l.bel
  obtain ⟨Qb, hQ⟩ : ∃ D, D = w4.heap.size := ⟨_, rfl⟩
  obtain ⟨Z, hZ⟩ : ∃ Z, Z = w4.alloc (.cells (svC none rcz) 89) := ⟨_, rfl⟩
  have bZ : Below w4.heap.size w4 Z := by rw [hZ]; exact (Below.refl _ _).alloc (Nat.le_refl _) _
  have hge : ∀ x, SB t2 M2 [] ⟨c3, none, 0, 0⟩ [] x → w3.heap.size ≤ x ∧ x < Qb := fun x hx => ⟨hSS.ge x hx, by rw [hQ]; exact hSS.lt x hx⟩
  have HZ : Hid (SdvAt Z Qb none rcz ∧ SdvAt Z Pb (some ⟨t, 0, none⟩) ⟨d, none, 0, 0⟩ ∧ SS w t M d [] ⟨d, none, 0, 0⟩ [] Z ∧ SS w t2 M2 c3 [] ⟨c3, none, 0, 0⟩ [] Z ∧ Pb < Qb ∧ ∀ x, SB t2 M2 [] ⟨c3, none, 0, 0⟩ [] x → Pb < x ∧ x < Qb) := ⟨by rw [hZ, hQ]; exact sdv_new w4 none rcz, (H3.out.1.below b4).below bZ, (H3.out.2.1.below b4).below bZ, hs2.below bZ, by have := b4.size; have := H3.out.2.2.1; omega, fun x hx => by have := hge x hx; have := H3.out.2.2.1; exact ⟨by omega, by omega⟩⟩
  have HZE : Hid (w4.heap.size = Qb ∧ w4.alloc (.cells (svC none rcz) 89) = Z) := ⟨hQ.symm, hZ.symm⟩
  clear hQ hZ bZ hSS hs2 b4 hge
  go_wp2_with (first | (refine wpList_alloc_sdv rfl rfl ?_; rw [HZE.out.1, HZE.out.2]; simp only [Act.put, List.setIfInBounds_toArray, List.set_cons_succ, List.set_cons_zero]) | (refine wpList_store_sdv (.tmp 11) (.tmp 27) rfl rfl Qb none rcz (some ⟨t2, 0, none⟩) ⟨c3, none, 0, 0⟩ rfl rfl HZ.out.1 rfl ?_))
  intro w5 h5 k5
  have H5 : Hid (PL w Pb Qb t M d [] ⟨d, none, 0, 0⟩ [] ⟨d, none, 0, 0⟩ t2 M2 c3 [] ⟨c3, none, 0, 0⟩ [] ⟨c3, none, 0, 0⟩ w5) := by
    have h0 := HZ.out
    have h1 := H3.out
    refine ⟨h0.2.1.ch k5 (by have := h0.2.2.2.2.1; omega), h5, h0.2.2.1.ch k5 (fun x hx e => by have e' : x = Qb := e; have := h1.2.2.2.2 x hx; have := h0.2.2.2.2.1; omega) (fun x e => by have e' : x = Qb := e; have := h0.2.2.2.2.1; have := h1.2.2.2.1; omega), h0.2.2.2.1.ch k5 (fun x hx e => by have e' : x = Qb := e; have := h0.2.2.2.2.2 x hx; omega) (fun x e => by have e' : x = Qb := e; have := h0.2.2.2.2.1; have := h1.2.2.2.1; omega), fun x hx hy => ?_, fun x hx => ?_, fun x hx => ?_, by have := h0.2.2.2.2.1; omega, h1.2.2.2.1, by have := h0.2.2.2.2.1; have := h1.2.2.2.1; omega⟩
    · have := h1.2.2.2.2 x hx
      have := h0.2.2.2.2.2 x hy
      omega
    · have := h1.2.2.2.2 x hx
      have := h0.2.2.2.2.1
      exact ⟨by omega, by omega⟩
    · have := h0.2.2.2.2.2 x hx
      exact ⟨by omega, by omega⟩
  clear h5 k5 HZ HZE H3
  go_wp2_with fail
  go_loopw [9, 12] (fun kx ix wr => ∃ i : Nat, kx = .bool true ∧ ix = .int .i64 (i : Int) ∧ i ≤ len ∧ Hid (∃ E rc R E2 rc2 R2, PL w Pb Qb t M d E rc R rc t2 M2 c3 E2 rc2 R2 rc2 wr)) (fun _ ix _ => len - (intOf ix).toNat)
  case atStart => exact ⟨0, rfl, rfl, by omega, ⟨[], ⟨d, none, 0, 0⟩, [], [], ⟨c3, none, 0, 0⟩, [], H5.out⟩⟩
  case round =>
    obtain ⟨i, rfl, rfl, hi', HQ⟩ := hrel
    clear H5
    by_cases hlt : i < len
    · have k0 : (0 : Int) ≤ (i : Int) := by omega
      have k1 : (i : Int) < (len : Int) := by omega
      have k2 : ((i : Int)).toNat = i := by omega
      have wi : IntKind.i64.wrap ((i : Int) + 1) = (i : Int) + 1 := by have := HS.out.2.2; rw [IntKind.wrap_i64]; omega
      have HLT : Hid (i < len) := hlt
      obtain ⟨E, rc, R, E2, rc2, R2, hPL⟩ := HQ.out
      obtain ⟨o, hok, g, off, hga, hrg⟩ := op_at HS.out.1 hPL.sp.l.bel i (by rw [HS.out.2.1]; exact hlt)
      subst hga
      have HOK : Hid (OpOk o ∧ wr.rangeAt g (off + i * 27) (opC o).toList) := ⟨hok, hrg⟩
      obtain ⟨D, hD⟩ : ∃ D, D = wr.heap.size := ⟨_, rfl⟩
      obtain ⟨Z, hZ⟩ : ∃ Z, Z = wr.alloc (.cells (opC oz) 35) := ⟨_, rfl⟩
      have bZ : Below wr.heap.size wr Z := by rw [hZ]; exact (Below.refl _ _).alloc (Nat.le_refl _) _
      have HZ : Hid (OpvAt Z D oz ∧ PL w Pb Qb t M d E rc R rc t2 M2 c3 E2 rc2 R2 rc2 Z) := ⟨by rw [hZ, hD]; exact opv_new wr oz, hPL.below bZ⟩
      have HZE : Hid (wr.heap.size = D ∧ wr.alloc (.cells (opC oz) 35) = Z) := ⟨hD.symm, hZ.symm⟩
      have HBZ : Hid (Below wr.heap.size wr Z ∧ PL w Pb Qb t M d E rc R rc t2 M2 c3 E2 rc2 R2 rc2 wr) := ⟨bZ, hPL⟩
      clear hD hZ bZ hPL HQ hi' hok hrg
      go_upto_block 1 with fail
      go_cut [9] (fun v wx => v = .bool true ∧ Hid (∃ E rc R E2 rc2 R2, PL w Pb Qb t M d E rc R rc t2 M2 c3 E2 rc2 R2 rc2 wx))
      case first =>
        go_wp2_with (first | (refine wpList_mid_opv (.tmp 40) rfl g (off + i * 27) o rfl HOK.out.2 rfl ?_) | (refine wpList_alloc_opv rfl rfl ?_; rw [HZE.out.1, HZE.out.2]; simp only [Act.put, List.setIfInBounds_toArray, List.set_cons_succ, List.set_cons_zero]) | (refine wpList_store_opv (.tmp 13) (.tmp 41) rfl rfl D oz o rfl rfl HZ.out.1 rfl ?_))
        intro w6 h6 k6
        have b6 : Below wr.heap.size wr w6 := HBZ.out.1.trans (k6.below (fun q e => by have e' : q = D := e; have := HZE.out.1; omega) HBZ.out.1.size)
        have H6 : Hid (OpvAt w6 D o ∧ PL w Pb Qb t M d E rc R rc t2 M2 c3 E2 rc2 R2 rc2 w6) := ⟨h6, HBZ.out.2.below b6⟩
        clear h6 k6 b6 HZ HZE HBZ
        obtain ⟨kd, hkd⟩ : ∃ kd, kd = o.kd := ⟨_, rfl⟩
        have d0 : w6.cell? ⟨D, 0, none⟩ = some (.int .i64 kd) := by rw [hkd]; exact H6.out.1.cell 0
        obtain ⟨tw, htw⟩ : ∃ tw, tw = o.tw := ⟨_, rfl⟩
        have d1 : w6.cell? ⟨D, 1, none⟩ = some (.bool tw) := by rw [htw]; exact H6.out.1.cell 1
        clear hkd htw
        go_upto_region 12 with fail
        go_cut [61] (fun v wx => ∃ b, v = .bool b ∧ w6 = wx)
        case first =>
          by_cases g1 : kd ≥ 4
          · have q1 : decide (kd ≥ 4) = true := by simpa using g1
            by_cases g2 : kd ≤ 6
            · have q2 : decide (kd ≤ 6) = true := by simpa using g2
              by_cases g3 : kd < lo
              · have q3 : decide (kd < lo) = true := by simpa using g3
                clear g1 g2 g3
                go_wp2_with fail
                go_meet
                exact ⟨_, rfl, rfl⟩
              · have q3 : decide (kd < lo) = false := by simpa using g3
                by_cases g4 : kd > hi
                · have q4 : decide (kd > hi) = true := by simpa using g4
                  clear g1 g2 g3 g4
                  go_wp2_with fail
                  go_meet
                  exact ⟨_, rfl, rfl⟩
                · have q4 : decide (kd > hi) = false := by simpa using g4
                  clear g1 g2 g3 g4
                  go_wp2_with fail
                  go_meet
                  exact ⟨_, rfl, rfl⟩
            · have q2 : decide (kd ≤ 6) = false := by simpa using g2
              clear g1 g2
              go_wp2_with fail
              go_meet
              exact ⟨_, rfl, rfl⟩
          · have q1 : decide (kd ≥ 4) = false := by simpa using g1
            clear g1
            go_wp2_with fail
            go_meet
            exact ⟨_, rfl, rfl⟩
        case rest =>
          obtain ⟨b, rfl, rfl⟩ := hcut
          clear d0
          cases b with
          | true =>
            have HM : Hid (∃ E rc R E2 rc2 R2, PL w Pb Qb t M d E rc R rc t2 M2 c3 E2 rc2 R2 rc2 w6) := ⟨E, rc, R, E2, rc2, R2, H6.out.2⟩
            clear H6 d1
            go_wp2_with fail
            go_meet
            exact ⟨rfl, HM⟩
          | false =>
            cases tw with
            | true =>
              have QS : Hid _ := step_any w t2 M2 c3 E2 rc2 R2 o HOK.out.1 w6 H6.out.2.sq
              go_wp2_with (first | (refine wpList_load_sdv (.tmp 11) rfl Qb (some ⟨t2, 0, none⟩) rc2 rfl H6.out.2.q rfl ?_) | (refine wpList_load_opv (.tmp 13) rfl D o rfl H6.out.1 rfl ?_))
              refine Calls.mono QS.out ?_
              rintro r w7 ⟨E', rc', R', rfl, hst, hSS, hch, hsb⟩
              have H7 : Hid (PL w Qb Pb t2 M2 c3 E' rc' R' rc2 t M d E rc R rc w7) := H6.out.2.swap.step hSS hch hsb
              clear hst hSS hch hsb QS H6 d1
              go_wp2_with (first | (refine wpList_store_sdv (.tmp 11) (.tmp 68) rfl rfl Qb (some ⟨t2, 0, none⟩) rc2 (some ⟨t2, 0, none⟩) rc' rfl rfl H7.out.p rfl ?_))
              intro w8 h8 k8
              have HM : Hid (∃ E rc R E2 rc2 R2, PL w Pb Qb t M d E rc R rc t2 M2 c3 E2 rc2 R2 rc2 w8) := ⟨E, rc, R, E', rc', R', (H7.out.put k8 h8).swap⟩
              clear h8 k8 H7
              go_wp2_with fail
              go_meet
              exact ⟨rfl, HM⟩
            | false =>
              have QS : Hid _ := step_any w t M d E rc R o HOK.out.1 w6 H6.out.2.sp
              go_wp2_with (first | (refine wpList_load_sdv (.tmp 10) rfl Pb (some ⟨t, 0, none⟩) rc rfl H6.out.2.p rfl ?_) | (refine wpList_load_opv (.tmp 13) rfl D o rfl H6.out.1 rfl ?_))
              refine Calls.mono QS.out ?_
              rintro r w7 ⟨E', rc', R', rfl, hst, hSS, hch, hsb⟩
              have H7 : Hid (PL w Pb Qb t M d E' rc' R' rc t2 M2 c3 E2 rc2 R2 rc2 w7) := H6.out.2.step hSS hch hsb
              clear hst hSS hch hsb QS H6 d1
              go_wp2_with (first | (refine wpList_store_sdv (.tmp 10) (.tmp 74) rfl rfl Pb (some ⟨t, 0, none⟩) rc (some ⟨t, 0, none⟩) rc' rfl rfl H7.out.p rfl ?_))
              intro w8 h8 k8
              have HM : Hid (∃ E rc R E2 rc2 R2, PL w Pb Qb t M d E rc R rc t2 M2 c3 E2 rc2 R2 rc2 w8) := ⟨E', rc', R', E2, rc2, R2, H7.out.put k8 h8⟩
              clear h8 k8 H7
              go_wp2_with fail
              go_meet
              exact ⟨rfl, HM⟩
      case rest =>
        obtain ⟨rfl, HR⟩ := hcut
        clear HZ HZE HBZ HOK
        go_wp2_with fail
        go_roundw
        case rel => exact ⟨i + 1, rfl, by first | rfl | go_num, by have := HLT.out; omega, HR⟩
        case measure => have := HLT.out; simp [intOf]; omega
    · have hni : ¬ ((i : Int) < (len : Int)) := by omega
      have HE : Hid (Below w.heap.size w wr) := by obtain ⟨E, rc, R, E2, rc2, R2, hPL⟩ := HQ.out; exact hPL.sp.l.bel
      clear HQ
      go_wp2_with fail
      go_ret
      exact ⟨rfl, HE.out⟩
end Go.Proofs.Ytialefdojeddjaa
