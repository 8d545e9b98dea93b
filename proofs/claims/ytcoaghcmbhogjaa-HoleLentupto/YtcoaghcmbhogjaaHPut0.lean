/-
  Package hole: the map of the pieces taken; bytes held against bytes; what Put answers.
-/
import Derived.Test.YtcoaghcmbhogjaaHFill
import Derived.Laws.ResultCell
namespace Go.Proofs.Ytcoaghcmbhogjaa
open Go.RowKit Go.Maps
namespace H11

set_option maxHeartbeats 400000 in
set_option maxRecDepth 100000 in
theorem equal_any (a b : Option Addr) (na nb ca cb : Nat) (l m : List Nat) (w : World) (hna : l.length = na) (hnb : m.length = nb) (hl : Seg .u8 w a (toI l)) (hm : Seg .u8 w b (toI m)) (hl2 : ∀ x ∈ l, x < 256) (hm2 : ∀ x ∈ m, x < 256) :
    Calls Try.prog 36 #[.slice a na ca, .slice b nb cb] w fun e w' => e = .returned (.bool (decide (l = m))) ∧ w = w' := by
  have k1 := conv_any w a ca l hl hl2
  have k2 := conv_any w b cb m hm hm2
  rw [hna] at k1
  rw [hnb] at k2
  obtain ⟨s, hs⟩ : ∃ s, s = strOf l := ⟨_, rfl⟩
  obtain ⟨t, ht⟩ : ∃ t, t = strOf m := ⟨_, rfl⟩
  rw [← hs] at k1
  rw [← ht] at k2
  have HD : Hid ((s.toList == t.toList) = decide (l = m)) := by
    show (s.toList == t.toList) = decide (l = m)
    rw [hs, ht, ByteArray.toList_eq, ByteArray.toList_eq]
    by_cases h : l = m
    · subst h; simp
    · have : (strOf l).data.toList ≠ (strOf m).data.toList := fun e => h (strOf_eq l m hl2 hm2 (WideShapes.bytes_inj e))
      rw [decide_eq_false h]
      simpa using this
  clear hs ht hna hnb
  go_enter Try.func36, Try.ntmps36
  go_wp2
  go_ret
  exact ⟨congrArg (fun b => Ending.returned (.bool b)) HD.out, rfl⟩

theorem zeroU (w : World) : (zeroValue 80).run Try.prog w = .ok (.agg #[]) w := by kernel_rfl
theorem yields_look {ops : Array Oper} {o : Oper} {a : Act} {S : World → Prop} (m x : Operand) (ho : o.op = .lookup 74 m x true) (M n : Nat) (D : DataW Unit) (kx : Value) (kl : Lit) (hm : a.eval m = .map (some M)) (hx : a.eval x = kx) (hk : keyOf Try.prog 78 kx = some kl) (hw : Region.wanted o (yielded ops a.tmps) = true)
    (hS : ∀ w, S w → w.ownsMap Try.prog 78 unitElem M n D) : YieldsIf Try.prog ops S o (.tuple #[.agg #[], .bool (Maps.has D kl)]) a := by
  refine .inl ⟨hw, fun w hb => ?_⟩
  obtain ⟨v, ps, hrun, hv⟩ := (hS w hb).look_ok lawP Try.underlying74 (zeroU w) (unitElem_mk (H := Unit)) hk
  obtain ⟨rfl, _⟩ := unitElem_inv hv
  obtain ⟨dst, op, type, pos, after, guard⟩ := o
  simp only at ho
  subst ho
  simp only [execOp, Sem.run_bind, Sem.run_pure, hm, hx, hrun, Result.andThen_ok]
theorem HAt.taken {w w' : World} {H : Nat} {s : HS} {v : HV} (h : HAt w H s v) (o n : Nat) (more : Bool) (kl : Lit) (hk : keyOf Try.prog 78 (kv o n more) = some kl) (hm : w'.ownsMap Try.prog 78 unitElem v.M (s.tk.length + 1) (v.D.put kl (.agg []))) (hg : w.grownBy w' (some v.M)) :
    HAt w' H { s with tk := (o, n, more) :: s.tk } { v with D := v.D.put kl (.agg []) } := by
  have k := Ch.ofGrown hg
  have nH : ¬ some v.M = some H := fun e => h.nHM (by simp at e; exact e.symm)
  refine ⟨k.cell h.c0 nH, k.cell h.c1 nH, k.cell h.c2 nH, k.cell h.c3 nH, k.cell h.c4 nH, ?_, ?_, ?_, hm, ?_, h.nHM, h.nbH, h.nbM, h.ngH, h.ngM, h.nbg⟩
  · intro j
    exact (k.frozen (p := ⟨H, j, none⟩) (h.lt H (.inl rfl)) nH).trans (h.fz j)
  · exact k.owns h.bo (fun g hg e => h.nbM (by rw [hg]; exact e.symm))
  · exact k.owns h.go (fun g hg e => h.ngM (by rw [hg]; exact e.symm))
  · intro o' n' m' l hl
    simp only [List.mem_cons]
    by_cases e : l = kl
    · subst e
      have e2 := lawP.inj hl hk
      obtain ⟨e3, e4, e5⟩ := kv_inj e2
      rw [Maps.has_put_same h.mo.isMap (lawP.key hk)]
      have : (o', n', m') = (o, n, more) := by rw [Prod.mk.injEq, Prod.mk.injEq]; exact ⟨by omega, by omega, e5⟩
      simp [this]
    · rw [Maps.has_put_other e]
      rw [h.hs o' n' m' l hl]
      constructor
      · exact fun k => .inr k
      · rintro (k | k)
        · exfalso
          rw [Prod.mk.injEq, Prod.mk.injEq] at k
          obtain ⟨rfl, rfl, rfl⟩ := k
          rw [hk] at hl
          exact e (by simpa using hl.symm)
        · exact k
theorem results_ft {fn : Func} {p u : Tmp} (h : fn.results = #[.cell p 33, .tmp u]) (tmps : Array Value) (w : World) (O : Nat) (C : Array Value) (hC : C.size = 3) (hp : tmps.getD p undef = .pointer (some ⟨O, 0, none⟩)) (hb : FtAt w O C) :
    (results fn tmps).run Try.prog w = .ok (.tuple #[.agg C, tmps.getD u undef]) w := by
  rw [results_cell_tmp h tmps Try.prog w, hp]
  simp [asAddr, run_loadVar_row w O _ 33 C _ _ hb Try.underlying33 rfl (by rw [hC]; exact Try.sizeFt), Result.andThen]
def ftz : Array Value := #[.int .i64 0, .int .i64 0, .bool false]
theorem ft_one (a b : Int) (m : Bool) : ((#[.int .i64 a, .int .i64 b, .bool m] : Array Value).all fun x => x.oneCell') = true := by simp [Value.oneCell']

set_option maxRecDepth 100000 in
set_option maxHeartbeats 3200000 in
theorem put_no (w : World) (H : Nat) (s : HS) (v : HV) (h : HAt w H s v) (hi : Inv s) (off : Int) (d : List Nat) (da : Option Addr) (c : Nat) (more : Bool) (hr : rf s off d.length more ≠ 0) :
    Calls Try.prog 13 #[.pointer (some ⟨H, 0, none⟩), .int .i64 off, .slice da d.length c, .bool more] w fun r w' => r = .returned (.tuple #[.agg ftz, .int .i64 (rf s off d.length more)]) ∧ Below w.heap.size w w' := by
  obtain ⟨n, hn⟩ : ∃ n, n = d.length := ⟨_, rfl⟩
  rw [← hn]
  obtain ⟨P, hP⟩ : ∃ P : Array Value, P = #[.int .i64 off, .int .i64 (n : Int), .bool more] := ⟨_, rfl⟩
  obtain ⟨B, hB⟩ : ∃ B, B = w.heap.size := ⟨_, rfl⟩
  obtain ⟨W, hW⟩ : ∃ W, W = (w.alloc (.cells #[.int .i64 0, .int .i64 0, .bool false] 33)).alloc (.cells #[.int .i64 off, .int .i64 (n : Int), .bool more] 78) := ⟨_, rfl⟩
  have hb1 : Below w.heap.size w (w.alloc (.cells #[.int .i64 0, .int .i64 0, .bool false] 33)) := (Below.refl _ _).alloc (Nat.le_refl _) _
  have hb : Below w.heap.size w W := by rw [hW]; exact hb1.alloc hb1.size _
  have hs1 : (w.alloc (.cells #[.int .i64 0, .int .i64 0, .bool false] 33)).heap.size = B + 1 := by rw [hB]; simp
  have hPc : PcAt W (B + 1) P := by
    rw [hW, ← hs1, hP]
    exact PcAt_new _ _
  have hFt : FtAt W B ftz := by
    rw [hW, hB]
    exact FtAt.below (FtAt_new _ _) ((Below.refl _ _).alloc (Nat.le_refl _) _)
  have HWW : Hid ((w.alloc (.cells #[.int .i64 0, .int .i64 0, .bool false] 33)).alloc (.cells #[.int .i64 off, .int .i64 (n : Int), .bool more] 78) = W) := hW.symm
  have HBB : Hid (w.heap.size = B) := hB.symm
  have HP3 : Hid (P.size = 3) := by rw [hP]; rfl
  have HP : Hid (P = #[.int .i64 off, .int .i64 (n : Int), .bool more]) := hP
  have hBW : B + 1 < W.heap.size := hPc.lt
  have QR : Hid _ := refuse_any W H s v (h.below hb) hi.m2 off n more
  rw [← hn] at hr
  obtain ⟨E, hE⟩ : ∃ E, E = rf s off n more := ⟨_, rfl⟩
  rw [← hE] at hr QR ⊢
  have hE0 : (E != 0) = true := by rw [bne_iff_ne]; exact hr
  have QR : Hid (Calls Try.prog 31 #[.pointer (some ⟨H, 0, none⟩), .agg P] W fun e w' => e = .returned (.int .i64 E) ∧ Below W.heap.size W w') := by
    have := QR.out
    rw [hP]
    exact this
  clear hn hW hB hs1 hb1 hP hE hr h hi
  go_enter Try.func13, Try.ntmps13
  go_upto_region 2 with fail
  (try simp only [World.size_alloc])
  rw [HWW.out, HBB.out]
  go_wp2_with (first | (refine wpList_load_Pc (.tmp 10) rfl (B + 1) P HP3.out rfl hPc rfl ?_))
  refine Calls.mono QR.out ?_
  rintro e w2 ⟨rfl, hb2⟩
  have hFt2 := hFt.below hb2
  have bel2 : Below w.heap.size w w2 := hb.trans (hb2.mono hb.size)
  have HBE : Hid (w.heap.size ≤ B) := by show _ ≤ _; rw [HBB.out]; exact Nat.le_refl _
  clear QR hb2 hFt hPc
  go_wp2_with (first | (refine wpList_store_Ft (.tmp 8) (.tmp 26) rfl rfl B ftz ftz rfl rfl (ft_one 0 0 false) rfl rfl hFt2 rfl ?_))
  intro w3 hFt3 k3
  have bel3 : Below w.heap.size w w3 := bel2.trans (k3.below (fun q e => by have e' : q = B := e; have := HBE.out; omega) bel2.size)
  have HF3 : Hid _ := hFt3
  clear k3 hFt3 hFt2
  go_wp2
  (try simp only [Exit.inBlock, Exit.then])
  refine bodyPost_ret (results_ft rfl _ _ B ftz rfl rfl HF3.out) rfl ?_
  exact ⟨rfl, bel3⟩


end H11
end Go.Proofs.Ytcoaghcmbhogjaa
