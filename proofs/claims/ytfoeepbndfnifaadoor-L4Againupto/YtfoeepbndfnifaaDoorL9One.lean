/-
  A datagram and a segment in memory: loaded, stored, made in one step; TcpOptions.
-/
import Derived.Test.YtfoeepbndfnifaaDoorL9Len
namespace Go.Proofs.YtfoeepbndfnifaaDoor
open Go.RowKit
open L4 (U9 T9)

def u9z : U9 := ⟨0, 0, false, []⟩
def t9z : T9 := ⟨0, 0, 0, 0, 0, 0, 0, [], []⟩
theorem Tryd.sizeU9 : (Tryd.prog.info? 37).map (·.size) = some 4 := by kernel_rfl
def UAt (w : World) (O : Nat) (u : U9) (da : Option Addr) (n c : Nat) : Prop := w.heap[O]? = some (.cells (uC u da n c) 37 (0, 0))
section
variable {w : World} {O : Nat} {u : U9} {da : Option Addr} {n c : Nat} (k : UAt w O u da n c)
include k
theorem UAt.lt : O < w.heap.size := (Array.getElem?_eq_some_iff.1 k).1
theorem UAt.ch {S : Nat → Prop} {w' : World} (h : Ch S w w') (hS : ¬ S O) : UAt w' O u da n c := (h.block O k.lt hS).trans k
theorem UAt.below {w' : World} (h : Below w.heap.size w w') : UAt w' O u da n c := (h.block O k.lt).trans k
theorem UAt.cell (i : Nat) : w.cell? ⟨O, i, none⟩ = (uC u da n c)[i]? := by unfold UAt at k; simp [World.cell?, k]
theorem UAt.c0 : w.cell? ⟨O, 0, none⟩ = some (.int .i64 u.sp) := k.cell 0
theorem UAt.c1 : w.cell? ⟨O, 1, none⟩ = some (.int .i64 u.dp) := k.cell 1
theorem UAt.c2 : w.cell? ⟨O, 2, none⟩ = some (.bool u.ns) := k.cell 2
theorem UAt.c3 : w.cell? ⟨O, 3, none⟩ = some (.slice da n c) := k.cell 3
theorem UAt.fz (j : Nat) : w.frozen? ⟨O, j, none⟩ = false := by
  unfold UAt at k
  simp [World.frozen?, k]
end
theorem uAt_new (w : World) (u : U9) (da : Option Addr) (n c : Nat) : UAt (w.alloc (.cells (uC u da n c) 37)) w.heap.size u da n c := heap_alloc_new _ _
theorem wpList_load_u9 {ops : Array Oper} {rest : List Oper} {o : Oper} {a : Act} {w : World} {Q : Exit → Act → World → Prop} (x : Operand) (ho : o.op = .load 37 x) (O : Nat) (u : U9) (da : Option Addr) (n c : Nat) (hx : a.eval x = .pointer (some ⟨O, 0, none⟩)) (hb : UAt w O u da n c)
    (hw : Region.wanted o (yielded ops a.tmps) = true) (hh : wpList Tryd.prog ops Q rest (a.put o.dst (.agg (uC u da n c))) w) : wpList Tryd.prog ops Q (o :: rest) a w := by
  refine wpList_step fun K hK => ?_
  rw [if_pos hw]
  exact wp_load_row 37 x ho O hx _ _ _ _ hb Tryd.underlying37 rfl Tryd.sizeU9 (hK _ _ hh)
theorem wpList_store_u9 {ops : Array Oper} {rest : List Oper} {o : Oper} {a : Act} {w : World} {Q : Exit → Act → World → Prop} (x y : Operand) (ho : o.op = .store 37 x y) (hd : o.dst = none) (O : Nat) (u : U9) (da : Option Addr) (n c : Nat) (u' : U9) (da' : Option Addr) (n' c' : Nat) (hx : a.eval x = .pointer (some ⟨O, 0, none⟩)) (hy : a.eval y = .agg (uC u' da' n' c')) (hb : UAt w O u da n c)
    (hw : Region.wanted o (yielded ops a.tmps) = true) (hh : ∀ w', UAt w' O u' da' n' c' → Ch (fun q => q = O) w w' → wpList Tryd.prog ops Q rest a w') : wpList Tryd.prog ops Q (o :: rest) a w := by
  refine wpList_step fun K hK => ?_
  rw [if_pos hw]
  refine wp_store_row 37 x y ho O (uC u' da' n' c') hx hy _ (uC u da n c) hb Tryd.sizeU9 rfl (by simp [uC, Value.oneCell']) (hK _ _ ?_)
  rw [hd]
  refine hh _ (setRow_heap w O _ _ _ _ hb) ⟨rfl, rfl, rfl, ?_, ?_⟩
  · simp [World.setRow]
  · intro k hk hne
    simp only [World.setRow]
    rw [Array.getElem?_modify, if_neg (fun e => hne e.symm)]
theorem built_u0 : Tryd.prog.built 37 [] = some (uC u9z none 0 0) := by kernel_rfl
theorem wpList_build0u {ops : Array Oper} {rest : List Oper} {o : Oper} {a : Act} {w : World} {Q : Exit → Act → World → Prop} (ho : o.op = .build 37 #[]) (hw : Region.wanted o (yielded ops a.tmps) = true)
    (h : wpList Tryd.prog ops Q rest (a.put o.dst (.agg (uC u9z none 0 0))) w) : wpList Tryd.prog ops Q (o :: rest) a w := by
  refine wpList_step fun K hK => ?_
  rw [if_pos hw]
  unfold Oper.wp execOp
  have := run_build (P := Tryd.prog) w 37 #[] _ built_u0
  simp only [ho, Sem.run_bind, List.map_toArray, List.map_nil, this, Result.andThen_ok]
  exact hK _ _ h
theorem wpList_alloc_u9 {ops : Array Oper} {rest : List Oper} {o : Oper} {a : Act} {w : World} {Q : Exit → Act → World → Prop} (ho : o.op = .alloc 37) (hw : Region.wanted o (yielded ops a.tmps) = true)
    (h : wpList Tryd.prog ops Q rest (a.put o.dst (.pointer (some ⟨w.heap.size, 0, none⟩))) (w.alloc (.cells (uC u9z none 0 0) 37))) : wpList Tryd.prog ops Q (o :: rest) a w := by
  refine wpList_step fun K hK => ?_
  rw [if_pos hw]
  have hrun : (execOp a.eval o).run Tryd.prog w = .ok (.value (.pointer (some ⟨w.heap.size, 0, none⟩))) (w.alloc (.cells (uC u9z none 0 0) 37)) := by
    obtain ⟨dst, op, type, pos, after, guard⟩ := o
    simp only at ho
    subst ho
    simp only [execOp]
    go_simp
    rfl
  unfold Oper.wp
  rw [hrun]
  exact hK _ _ h
theorem results_u9_tmp {fn : Func} {p u0 : Tmp} (h : fn.results = #[.cell p 37, .tmp u0]) (tmps : Array Value) (w : World) (O : Nat) (u : U9) (da : Option Addr) (n c : Nat) (hp : tmps.getD p undef = .pointer (some ⟨O, 0, none⟩)) (hb : UAt w O u da n c) :
    (results fn tmps).run Tryd.prog w = .ok (.tuple #[.agg (uC u da n c), tmps.getD u0 undef]) w := by
  rw [results_cell_tmp h tmps Tryd.prog w, hp]
  simp [asAddr, run_loadVar_row w O _ 37 (uC u da n c) _ _ hb Tryd.underlying37 rfl Tryd.sizeU9, Result.andThen]
theorem yields_u9 {ops : Array Oper} {o : Oper} {a : Act} {S : World → Prop} (x : Operand) (ho : o.op = .load 37 x) (O : Nat) (u : U9) (da : Option Addr) (n c : Nat) (hx : a.eval x = .pointer (some ⟨O, 0, none⟩)) (hw : Region.wanted o (yielded ops a.tmps) = true) (hS : ∀ w, S w → UAt w O u da n c) : YieldsIf Tryd.prog ops S o (.agg (uC u da n c)) a :=
  yields_box 37 x ho ⟨O, 0, none⟩ (uC u da n c) hx hw (fun w h => run_loadVar_row w O _ 37 (uC u da n c) _ _ (hS w h) Tryd.underlying37 rfl Tryd.sizeU9)
theorem Tryd.sizeT9 : (Tryd.prog.info? 45).map (·.size) = some 9 := by kernel_rfl
def TAt (w : World) (O : Nat) (t : T9) (la : Option Addr) (ln lc : Nat) (da : Option Addr) (n c : Nat) : Prop := w.heap[O]? = some (.cells (tC t la ln lc da n c) 45 (0, 0))
section
variable {w : World} {O : Nat} {t : T9} {la : Option Addr} {ln lc : Nat} {da : Option Addr} {n c : Nat} (k : TAt w O t la ln lc da n c)
include k
theorem TAt.lt : O < w.heap.size := (Array.getElem?_eq_some_iff.1 k).1
theorem TAt.ch {S : Nat → Prop} {w' : World} (h : Ch S w w') (hS : ¬ S O) : TAt w' O t la ln lc da n c := (h.block O k.lt hS).trans k
theorem TAt.below {w' : World} (h : Below w.heap.size w w') : TAt w' O t la ln lc da n c := (h.block O k.lt).trans k
theorem TAt.cell (i : Nat) : w.cell? ⟨O, i, none⟩ = (tC t la ln lc da n c)[i]? := by unfold TAt at k; simp [World.cell?, k]
theorem TAt.c0 : w.cell? ⟨O, 0, none⟩ = some (.int .i64 t.sp) := k.cell 0
theorem TAt.c1 : w.cell? ⟨O, 1, none⟩ = some (.int .i64 t.dp) := k.cell 1
theorem TAt.c2 : w.cell? ⟨O, 2, none⟩ = some (.int .i64 t.sq) := k.cell 2
theorem TAt.c3 : w.cell? ⟨O, 3, none⟩ = some (.int .i64 t.ak) := k.cell 3
theorem TAt.c4 : w.cell? ⟨O, 4, none⟩ = some (.int .i64 t.fl) := k.cell 4
theorem TAt.c5 : w.cell? ⟨O, 5, none⟩ = some (.int .i64 t.wi) := k.cell 5
theorem TAt.c6 : w.cell? ⟨O, 6, none⟩ = some (.int .i64 t.ur) := k.cell 6
theorem TAt.c7 : w.cell? ⟨O, 7, none⟩ = some (.slice la ln lc) := k.cell 7
theorem TAt.c8 : w.cell? ⟨O, 8, none⟩ = some (.slice da n c) := k.cell 8
theorem TAt.fz (j : Nat) : w.frozen? ⟨O, j, none⟩ = false := by
  unfold TAt at k
  simp [World.frozen?, k]
end
theorem tAt_new (w : World) (t : T9) (la : Option Addr) (ln lc : Nat) (da : Option Addr) (n c : Nat) : TAt (w.alloc (.cells (tC t la ln lc da n c) 45)) w.heap.size t la ln lc da n c := heap_alloc_new _ _
theorem wpList_load_t9 {ops : Array Oper} {rest : List Oper} {o : Oper} {a : Act} {w : World} {Q : Exit → Act → World → Prop} (x : Operand) (ho : o.op = .load 45 x) (O : Nat) (t : T9) (la : Option Addr) (ln lc : Nat) (da : Option Addr) (n c : Nat) (hx : a.eval x = .pointer (some ⟨O, 0, none⟩)) (hb : TAt w O t la ln lc da n c)
    (hw : Region.wanted o (yielded ops a.tmps) = true) (hh : wpList Tryd.prog ops Q rest (a.put o.dst (.agg (tC t la ln lc da n c))) w) : wpList Tryd.prog ops Q (o :: rest) a w := by
  refine wpList_step fun K hK => ?_
  rw [if_pos hw]
  exact wp_load_row 45 x ho O hx _ _ _ _ hb Tryd.underlying45 rfl Tryd.sizeT9 (hK _ _ hh)
theorem wpList_store_t9 {ops : Array Oper} {rest : List Oper} {o : Oper} {a : Act} {w : World} {Q : Exit → Act → World → Prop} (x y : Operand) (ho : o.op = .store 45 x y) (hd : o.dst = none) (O : Nat) (t : T9) (la : Option Addr) (ln lc : Nat) (da : Option Addr) (n c : Nat) (t' : T9) (la' : Option Addr) (ln' lc' : Nat) (da' : Option Addr) (n' c' : Nat) (hx : a.eval x = .pointer (some ⟨O, 0, none⟩)) (hy : a.eval y = .agg (tC t' la' ln' lc' da' n' c')) (hb : TAt w O t la ln lc da n c)
    (hw : Region.wanted o (yielded ops a.tmps) = true) (hh : ∀ w', TAt w' O t' la' ln' lc' da' n' c' → Ch (fun q => q = O) w w' → wpList Tryd.prog ops Q rest a w') : wpList Tryd.prog ops Q (o :: rest) a w := by
  refine wpList_step fun K hK => ?_
  rw [if_pos hw]
  refine wp_store_row 45 x y ho O (tC t' la' ln' lc' da' n' c') hx hy _ (tC t la ln lc da n c) hb Tryd.sizeT9 rfl (by simp [tC, Value.oneCell']) (hK _ _ ?_)
  rw [hd]
  refine hh _ (setRow_heap w O _ _ _ _ hb) ⟨rfl, rfl, rfl, ?_, ?_⟩
  · simp [World.setRow]
  · intro k hk hne
    simp only [World.setRow]
    rw [Array.getElem?_modify, if_neg (fun e => hne e.symm)]
theorem built_t0 : Tryd.prog.built 45 [] = some (tC t9z none 0 0 none 0 0) := by kernel_rfl
theorem wpList_build0t {ops : Array Oper} {rest : List Oper} {o : Oper} {a : Act} {w : World} {Q : Exit → Act → World → Prop} (ho : o.op = .build 45 #[]) (hw : Region.wanted o (yielded ops a.tmps) = true)
    (h : wpList Tryd.prog ops Q rest (a.put o.dst (.agg (tC t9z none 0 0 none 0 0))) w) : wpList Tryd.prog ops Q (o :: rest) a w := by
  refine wpList_step fun K hK => ?_
  rw [if_pos hw]
  unfold Oper.wp execOp
  have := run_build (P := Tryd.prog) w 45 #[] _ built_t0
  simp only [ho, Sem.run_bind, List.map_toArray, List.map_nil, this, Result.andThen_ok]
  exact hK _ _ h
theorem wpList_alloc_t9 {ops : Array Oper} {rest : List Oper} {o : Oper} {a : Act} {w : World} {Q : Exit → Act → World → Prop} (ho : o.op = .alloc 45) (hw : Region.wanted o (yielded ops a.tmps) = true)
    (h : wpList Tryd.prog ops Q rest (a.put o.dst (.pointer (some ⟨w.heap.size, 0, none⟩))) (w.alloc (.cells (tC t9z none 0 0 none 0 0) 45))) : wpList Tryd.prog ops Q (o :: rest) a w := by
  refine wpList_step fun K hK => ?_
  rw [if_pos hw]
  have hrun : (execOp a.eval o).run Tryd.prog w = .ok (.value (.pointer (some ⟨w.heap.size, 0, none⟩))) (w.alloc (.cells (tC t9z none 0 0 none 0 0) 45)) := by
    obtain ⟨dst, op, type, pos, after, guard⟩ := o
    simp only at ho
    subst ho
    simp only [execOp]
    go_simp
    rfl
  unfold Oper.wp
  rw [hrun]
  exact hK _ _ h
theorem results_t9_tmp {fn : Func} {p u0 : Tmp} (h : fn.results = #[.cell p 45, .tmp u0]) (tmps : Array Value) (w : World) (O : Nat) (t : T9) (la : Option Addr) (ln lc : Nat) (da : Option Addr) (n c : Nat) (hp : tmps.getD p undef = .pointer (some ⟨O, 0, none⟩)) (hb : TAt w O t la ln lc da n c) :
    (results fn tmps).run Tryd.prog w = .ok (.tuple #[.agg (tC t la ln lc da n c), tmps.getD u0 undef]) w := by
  rw [results_cell_tmp h tmps Tryd.prog w, hp]
  simp [asAddr, run_loadVar_row w O _ 45 (tC t la ln lc da n c) _ _ hb Tryd.underlying45 rfl Tryd.sizeT9, Result.andThen]
theorem yields_t9 {ops : Array Oper} {o : Oper} {a : Act} {S : World → Prop} (x : Operand) (ho : o.op = .load 45 x) (O : Nat) (t : T9) (la : Option Addr) (ln lc : Nat) (da : Option Addr) (n c : Nat) (hx : a.eval x = .pointer (some ⟨O, 0, none⟩)) (hw : Region.wanted o (yielded ops a.tmps) = true) (hS : ∀ w, S w → TAt w O t la ln lc da n c) : YieldsIf Tryd.prog ops S o (.agg (tC t la ln lc da n c)) a :=
  yields_box 45 x ho ⟨O, 0, none⟩ (tC t la ln lc da n c) hx hw (fun w h => run_loadVar_row w O _ 45 (tC t la ln lc da n c) _ _ (hS w h) Tryd.underlying45 rfl Tryd.sizeT9)
/-- an option that was read, as a value in memory -/
def opV (a : Option Addr) (ob : List Nat) (o : I4.Op4) : OpV := ⟨(o.k : Nat), cutA a o.p o.n, o.n, (ob.drop o.p).take o.n⟩
theorem opsC_get (a : Option Addr) (ops : List I4.Op4) (i : Nat) (o : I4.Op4) (h : ops[i]? = some o) : (opsC a ops)[i * 2]? = some (.int .i64 (o.k : Nat)) ∧ (opsC a ops)[i * 2 + 1]? = some (.slice (cutA a o.p o.n) o.n o.n) := by
  induction ops generalizing i with
  | nil => simp at h
  | cons p ops ih =>
    have e : opsC a (p :: ops) = .int .i64 (p.k : Nat) :: .slice (cutA a p.p p.n) p.n p.n :: opsC a ops := by simp [opsC, opC]
    rw [e]
    cases i with
    | zero => simp at h; subst h; exact ⟨rfl, rfl⟩
    | succ i =>
      have := ih i (by simpa using h)
      rw [show (i + 1) * 2 = i * 2 + 1 + 1 by omega, show i * 2 + 1 + 1 + 1 = (i * 2 + 1) + 1 + 1 by omega]
      simpa using this
theorem opts_of_own {w : World} {B : Nat} {la : Option Addr} {K lc : Nat} {a : Option Addr} {ob : List Nat} {ops : List I4.Op4} (ho : w.ownsRow B 68 2 (.slice la K lc) K (opsC a ops)) (hK : ops.length = K) (hs : Seg .u8 w a (toI ob)) (h256 : ∀ x ∈ ob, x < 256) (hin : ∀ o ∈ ops, o.p + o.n ≤ ob.length) (hm : ob.length ≤ 9223372036854775807) : OptsAt w la (ops.map (opV a ob)) := by
  rcases ho.2 with ⟨_, h0⟩ | ⟨g, cap, cur, e, _, hg, _, _, _, ht⟩
  · left
    have : ops = [] := List.eq_nil_of_length_eq_zero (by omega)
    rw [this]; rfl
  · simp only [Value.slice.injEq, true_and] at e
    obtain ⟨rfl, rfl⟩ := e
    refine .inr ⟨g, 0, rfl, (Array.getElem?_eq_some_iff.1 hg).1, fun i o hi => ?_⟩
    rw [List.getElem?_map] at hi
    cases hp : ops[i]? with
    | none => rw [hp] at hi; simp at hi
    | some p =>
      rw [hp] at hi
      simp at hi
      subst hi
      have hpm := List.mem_of_getElem? hp
      have hl := hin p hpm
      have hlen : ((ob.drop p.p).take p.n).length = p.n := by simp; omega
      have hiK : i < K := by have := (List.getElem?_eq_some_iff.1 hp).1; omega
      obtain ⟨c1, c2⟩ := opsC_get a ops i p hp
      have d1 := ho.cellAt (i * 2) (by omega)
      have d2 := ho.cellAt (i * 2 + 1) (by omega)
      rw [c1] at d1
      rw [c2] at d2
      refine ⟨⟨?_, ?_, ?_, ?_⟩, by simpa [opV] using d1, ?_⟩
      · have h1 := hs.cut p.p p.n (by rw [toI_len]; exact hl)
        rw [toI_drop, toI_take] at h1
        exact h1
      · exact fun x hx => h256 x (List.mem_of_mem_drop (List.mem_of_mem_take hx))
      · show ((ob.drop p.p).take p.n).length ≤ p.n; omega
      · show p.n ≤ _; omega
      · show w.cell? ⟨g, 0 + i * 2 + 1, none⟩ = some (.slice (cutA a p.p p.n) ((ob.drop p.p).take p.n).length p.n)
        rw [hlen, Nat.zero_add]
        exact d2
theorem vals_opV (a : Option Addr) (ob : List Nat) (ops : List I4.Op4) : vals (ops.map (opV a ob)) = ops.map (fun o => I4.intO (I4.ov ob o)) := by
  unfold vals
  rw [List.map_map]
  rfl
/-- what TcpOptions leaves -/
def ToRes (w : World) (a : Option Addr) (bs : List Nat) (v : Value) (er : Int) (w' : World) : Prop :=
  (∃ os, L4.readO bs = some os ∧ er = 0 ∧ w'.ownsRow w.heap.size 68 2 v os.length (opsC a os)) ∨ (L4.readO bs = none ∧ er = 97 ∧ v = .slice none 0 0)
set_option maxHeartbeats 1600000 in
theorem topt_any (a : Option Addr) (cap n : Nat) (bs : List Nat) (w : World) (hd : LW w) (hn : bs.length = n) (hb : Seg .u8 w a (toI bs)) (h256 : ∀ x ∈ bs, x < 256) (h2 : n ≤ cap) (h3 : cap ≤ 9223372036854775807) :
    Calls Tryd.prog 11 #[.slice a n cap] w fun e w' => ∃ v er, e = .returned (.tuple #[v, .int .i64 er]) ∧ Below w.heap.size w w' ∧ ToRes w a bs v er w' := by
  have QR : Hid _ := read_any a cap n bs w hn hb h256 h2 h3
  have HSEG : Hid (∀ W, Below w.heap.size w W → Seg .u8 W a (toI bs)) := fun W hW => hb.old hW
  have H256 : Hid _ := h256
  have HLW : Hid (∀ W, Below w.heap.size w W → LW W) := fun W hW => hd.old hW
  clear hn hb h256 h2 h3 hd
  go_enter Tryd.func11, Tryd.ntmps11
  go_wp2_with fail
  refine Calls.mono QR.out ?_
  rintro e w1 ⟨v, er, rfl, hb1, hr⟩
  clear QR
  rcases hr with ⟨h40, os, hsc, rfl, ho⟩ | ⟨hno, rfl, rfl⟩
  · obtain ⟨la, lc, hv⟩ := owns_shape ho
    subst hv
    have hin : ∀ q ∈ os, q.p + q.n ≤ bs.length := fun q hq => ((I4.scan_in bs 0 os hsc (Nat.zero_le _) H256.out).1 q hq).2.2.2
    have hat := opts_of_own ho rfl (HSEG.out w1 hb1) H256.out hin (by omega)
    have hlen : os.length ≤ 40 := by
      have h1 := (I4.scan_in bs 0 os hsc (Nat.zero_le _) H256.out).2
      have h2 : ∀ l : List I4.Op4, l.length ≤ (I4.flatO (l.map (I4.ov bs))).length := by
        intro l
        induction l with
        | nil => simp
        | cons p l ih => rw [List.map_cons, I4.flatO_cons]; simp; omega
      have := h2 os
      omega
    have QL : Hid _ := lens_any la os.length lc (os.map (opV a bs)) w1 (HLW.out w1 hb1) (by simp) hat (by omega) (by
      intro o ho
      obtain ⟨q, hq, rfl⟩ := List.mem_map.1 ho
      have := hin q hq
      show ((bs.drop q.p).take q.n).length ≤ _
      simp
      omega)
    rw [vals_opV] at QL
    have HO : Hid _ := ho
    obtain ⟨z, hz⟩ : ∃ z, z = L4.lensOk (os.map (fun o => I4.intO (I4.ov bs o))) := ⟨_, rfl⟩
    rw [← hz] at QL
    have HZ : Hid (L4.readO bs = if z then some os else none) := by
      show _ = _
      unfold L4.readO
      rw [if_neg (by omega), hsc, hz]
    obtain ⟨K, hK⟩ : ∃ K, K = os.length := ⟨_, rfl⟩
    rw [← hK] at QL
    have HK : Hid (K = os.length) := hK
    rw [← hK]
    clear h40 hsc ho hin hat hlen hz hK
    go_wp2_with fail
    refine Calls.mono QL.out ?_
    rintro e w2 ⟨rfl, hb2⟩
    have HF : Hid (Below w.heap.size w w2) := bthen hb1 hb2
    have HO2 : Hid _ := own_below HO.out hb2
    clear QL hb2
    cases z with
    | false =>
      go_wp2
      go_ret2
      exact ⟨_, 97, rfl, HF.out, .inr ⟨by rw [HZ.out]; rfl, rfl, rfl⟩⟩
    | true =>
      go_wp2
      go_ret2
      exact ⟨_, 0, rfl, HF.out, .inl ⟨os, by rw [HZ.out]; rfl, rfl, by rw [HK.out]; exact HO2.out⟩⟩
  · have HZ : Hid (L4.readO bs = none) := by
      show _ = _
      unfold L4.readO
      rcases hno with h | h
      · rw [if_pos h]
      · split
        · rfl
        · rw [h]
    clear hno
    go_wp2
    go_ret2
    exact ⟨_, 97, rfl, hb1, .inr ⟨HZ.out, rfl, rfl⟩⟩
end Go.Proofs.YtfoeepbndfnifaaDoor
