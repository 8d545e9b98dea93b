/-
  FBk3 FlOp Bulk OpenG: lemmas of the proof of FlowPlays, and walks through the functions that it calls.
-/
import Derived.Lib.LaidTab
import Derived.Deep.DeepHandedRow
import Derived.Test.YtclpeepnngegaaaGreatDoorRows
import Derived.ChangeSlices
import Derived.Deep.Slices
import Derived.ProofKit
import Derived.OpenShut
import Derived.Test.YtclpeepnngegaaaGreatDoorP00
import Derived.Test.YtclpeepnngegaaaGreatDoorP15
import Derived.Test.YtclpeepnngegaaaGreatDoorP35
import Derived.Test.YtclpeepnngegaaaGreatDoorP38
namespace Go.Proofs.YtclpeepnngegaaaGreatDoor
open Go.RowKit Go.Maps
theorem yields_rowF {ops : Array Oper} {o : Oper} {a : Act} {S : World → Prop} (x : Operand) (ho : o.op = .load 34 x) (p : Addr) (u : Value) (hx : a.eval x = .pointer (some p)) (hw : Region.wanted o (yielded ops a.tmps) = true) (hS : ∀ w, S w → w.cell? p = some u) : YieldsIf Tryz.prog ops S o u a := by
 refine .inl ⟨hw, fun w hb => ?_⟩
 have hc := hS w hb
 have hu := Tryz.underlying34
 obtain ⟨dst, op, type, pos, after, guard⟩ := o
 simp only at ho
 subst ho
 simp only [execOp, Sem.run_bind, Sem.run_pure]
 rw [hx]
 go_simp
theorem yields_intsF {ops : Array Oper} {o : Oper} {a : Act} {S : World → Prop} (x : Operand) (ho : o.op = .load 30 x) (p : Addr) (u : Value) (hx : a.eval x = .pointer (some p)) (hw : Region.wanted o (yielded ops a.tmps) = true) (hS : ∀ w, S w → w.cell? p = some u) : YieldsIf Tryz.prog ops S o u a := by
 refine .inl ⟨hw, fun w hb => ?_⟩
 have hc := hS w hb
 have hu := Tryz.underlying30
 obtain ⟨dst, op, type, pos, after, guard⟩ := o
 simp only at ho
 subst ho
 simp only [execOp, Sem.run_bind, Sem.run_pure]
 rw [hx]
 go_simp
theorem yields_flo1 {ops : Array Oper} {o : Oper} {a : Act} {S : World → Prop} (y0 : Operand) (ho : o.op = .build 72 #[(1, y0)]) (p : Int) (h0 : a.eval y0 = .int .i64 p) (hw : Region.wanted o (yielded ops a.tmps) = true) : YieldsIf Tryz.prog ops S o (.agg (flC (mkN p))) a := by
 refine .inl ⟨hw, fun w _ => ?_⟩
 obtain ⟨dst, op, type, pos, after, guard⟩ := o
 simp only at ho
 subst ho
 simp only [execOp, Sem.run_bind, List.map_toArray, List.map_cons, List.map_nil, h0, run_flo1 p w, Result.andThen_ok]
 rfl
theorem gOk.fl {w : World} {r : Value × Nat × Int} (h : gOk w r) : FL w 0 r.1 (List.replicate r.2.1 (mkN r.2.2)) := by
 unfold gOk mkF at h
 rw [rep_fcs] at h
 show w.ownsRow 0 72 40 r.1 (List.replicate r.2.1 (mkN r.2.2)).length (fcs (List.replicate r.2.1 (mkN r.2.2)))
 rw [List.length_replicate]
 exact h
set_option maxRecDepth 100000 in
set_option maxHeartbeats 12800000 in
theorem whole_any (w : World) (BK : Nat) (b : BV) (h : BkM w BK b) (hG : b.Mg = b.G.map (fun r => r.2.2)) (hN2 : b.G.length ≤ 100000) :
    Calls Tryz.prog 9 #[.pointer (some ⟨BK, 0, none⟩)] w fun r w' => r = .returned (.bool true) ∧ Below w.heap.size w w' := by
  have H : Hid (BkM w BK b) := h
  have HM : Hid (b.Mg = b.G.map (fun r => r.2.2)) := hG
  have HB : Hid (Below w.heap.size w w) := Below.refl _ _
  clear h hG
  go_enter Tryz.func9, Tryz.ntmps9
  go_wp2
  go_loopw [3] (fun ix wr => ∃ i : Nat, i ≤ b.G.length ∧ ix = .int .i64 (i : Int) ∧ Hid (Below w.heap.size w wr)) (fun ix _ => b.G.length - (intOf ix).toNat)
  case atStart => exact ⟨0, Nat.zero_le _, rfl, HB⟩
  case round =>
   obtain ⟨i, hi0, rfl, HB⟩ := hrel
   have hB1 := HB.out
   obtain ⟨N, hN⟩ : ∃ N, N = b.G.length := ⟨_, rfl⟩
   obtain ⟨ba, bc, hbv⟩ := owns_shape H.out.og
   rw [← hN] at hbv
   have c0 := H.out.c0
   rw [hbv] at c0
   have hBKl := H.out.lt BK (.inl rfl)
   have y0 : wr.cell? ⟨BK, 0, none⟩ = some (.slice ba N bc) := (World.cell?_of_block (hB1.block BK hBKl)).trans c0
   by_cases hge : b.G.length ≤ i
   · have d0 : ¬ (i : Int) < (N : Int) := by omega
     clear hge hB1
     go_wp2
     go_ret
     exact ⟨rfl, HB.out⟩
   · have d0 : (i : Int) < (N : Int) := by omega
     have hx : i < b.G.length := by omega
     have hi : i + 1 ≤ b.G.length := hx
     obtain ⟨hB, rfl, hhB, ce⟩ : ∃ q, ba = some ⟨q, 0, none⟩ ∧ q < w.heap.size ∧ w.cell? ⟨q, i, none⟩ = some (b.G[i]'hx).1 := by
      have ho := H.out.og
      rw [hbv, ← hN] at ho
      rcases ho.2 with ⟨_, e2⟩ | ⟨q, cap, cur, e1, _⟩
      · omega
      · simp only [Value.slice.injEq, true_and] at e1
        obtain ⟨rfl, rfl⟩ := e1
        refine ⟨q, rfl, (ho.lt q rfl).2, ?_⟩
        rw [ho.cellAt i (by omega), List.getElem?_map, List.getElem?_eq_getElem hx]
        rfl
     have hmlen : b.Mg.length = N := by rw [HM.out, List.length_map, hN]
     obtain ⟨mB, mc, hmv, hmB, cme⟩ : ∃ q mc, b.hn = .slice (some ⟨q, 0, none⟩) N mc ∧ q < w.heap.size ∧ w.cell? ⟨q, i, none⟩ = some (.int .i64 (b.G[i]'hx).2.2) := by
      have ho := H.out.on
      rw [hmlen] at ho
      rcases ho.2 with ⟨_, e2⟩ | ⟨q, cap, cur, e1, _⟩
      · omega
      · rw [e1] at ho
        refine ⟨q, cap, e1, (ho.lt q rfl).2, ?_⟩
        rw [ho.cellAt i (by omega), List.getElem?_map, HM.out, List.getElem?_map, List.getElem?_eq_getElem hx]
        rfl
     have cm := H.out.c1
     rw [hmv] at cm
     have hent := H.out.eg _ (List.getElem_mem hx)
     obtain ⟨r, hr⟩ : ∃ r, r = b.G[i]'hx := ⟨_, rfl⟩
     rw [← hr] at ce cme hent
     obtain ⟨v, n, m⟩ := r
     have hent0 : w.ownsRow 0 72 40 v n (rep n (mkF m)) := hent
     obtain ⟨ga, c, hgv⟩ := owns_shape hent0
     subst hgv
     have ce : w.cell? ⟨hB, i, none⟩ = some (.slice ga n c) := ce
     have cme : w.cell? ⟨mB, i, none⟩ = some (.int .i64 m) := cme
     have hnm : (n : Int) ≤ 9223372036854775807 := by
      rcases hent0.2 with ⟨_, e2⟩ | ⟨q, cap, cur, e1, _, _, e4, e5, _⟩
      · omega
      · unfold maxLen at e5; omega
     have x9 : wr.cell? ⟨hB, i, none⟩ = some (.slice ga n c) := (World.cell?_of_block (hB1.block hB hhB)).trans ce
     clear hge hr hent0 hB1 hbv hmv hmlen x9
     as_aux_lemma =>
      have hfl := hent.fl
      have HC : Hid (∀ k, k < n → ∃ g, ga = some ⟨g, 0, none⟩ ∧ g < w.heap.size ∧ w.rangeAt g (k * 40) (flC (mkN m)).toList) := by
       intro k hk
       obtain ⟨g, cap, e1, _, hg, hr⟩ := hfl.at k (mkN m) (by simp only [List.getElem?_replicate]; rw [if_pos hk])
       simp only [Value.slice.injEq] at e1
       exact ⟨g, e1.1, hg, hr⟩
      clear hent hfl
      go_wp2
      go_loopw [4] (fun kx wr => ∃ k : Nat, k ≤ n ∧ kx = .int .i64 (k : Int) ∧ Hid (Below w.heap.size w wr)) (fun kx _ => n - (intOf kx).toNat)
      case atStart => exact ⟨0, Nat.zero_le _, rfl, HB⟩
      case round =>
       obtain ⟨k, hk, rfl, HB2⟩ := hrel
       clear HB
       have hB2 := HB2.out
       have x0 : wr.cell? ⟨BK, 0, none⟩ = some (.slice (some ⟨hB, 0, none⟩) N bc) := (World.cell?_of_block (hB2.block BK hBKl)).trans c0
       have x1 : wr.cell? ⟨hB, i, none⟩ = some (.slice ga n c) := (World.cell?_of_block (hB2.block hB hhB)).trans ce
       by_cases hge : n ≤ k
       · obtain rfl : k = n := by omega
         have d1 : ¬ (k : Int) < (k : Int) := by omega
         clear hge hB2
         go_wp2
         go_roundw
         case rel => exact ⟨i + 1, hi, by go_num, HB2⟩
         case measure => simp [intOf]; omega
       · have d1 : (k : Int) < (n : Int) := by omega
         obtain ⟨g, hga, hgl, hcc⟩ := HC.out k (by omega)
         subst hga
         have hkn : k + 1 ≤ n := by omega
         have hk0 : k < n := by omega
         clear hge
         go_upto_region 7 with fail
         refine MixH.start (fun A => A.cell? ⟨BK, 0, none⟩ = some (.slice (some ⟨hB, 0, none⟩) N bc) ∧ A.cell? ⟨hB, i, none⟩ = some (.slice (some ⟨g, 0, none⟩) n c) ∧ A.rangeAt g (k * 40) (flC (mkN m)).toList ∧ A.cell? ⟨BK, 1, none⟩ = some (.slice (some ⟨mB, 0, none⟩) N mc) ∧ A.cell? ⟨mB, i, none⟩ = some (.int .i64 m)) (by kernel_rfl) ?_
         obtain ⟨wA, hwA⟩ : ∃ wA, wA = wr.drew := ⟨_, rfl⟩
         have hBA : Below w.heap.size w wA := by rw [hwA]; exact drew_below hB2
         have hS : wA.cell? ⟨BK, 0, none⟩ = some (.slice (some ⟨hB, 0, none⟩) N bc) ∧ wA.cell? ⟨hB, i, none⟩ = some (.slice (some ⟨g, 0, none⟩) n c) ∧ wA.rangeAt g (k * 40) (flC (mkN m)).toList ∧ wA.cell? ⟨BK, 1, none⟩ = some (.slice (some ⟨mB, 0, none⟩) N mc) ∧ wA.cell? ⟨mB, i, none⟩ = some (.int .i64 m) := ⟨(World.cell?_of_block (hBA.block BK hBKl)).trans c0, (World.cell?_of_block (hBA.block hB hhB)).trans ce, fun j v hj => (World.cell?_of_block (a := ⟨g, k * 40 + j, none⟩) (hBA.block g hgl)).trans (hcc j v hj), (World.cell?_of_block (hBA.block BK hBKl)).trans cm, (World.cell?_of_block (hBA.block mB hmB)).trans cme⟩
         have HBA : Hid (Below w.heap.size w wA) := hBA
         rw [← hwA]
         clear hwA hBA hB2 HB2 x0 x1 hcc
         refine MixH.tks [true, true, true, false, true, false, false, true, false, false, true, true, true, false, true] 10 hS (fun K hK => ?_)
         simp only [Mix.pick]
         repeat (go_big_quiet_step (fail))
         refine wpQuiet_nil (hK _ ?_)
         clear hK K
         refine MixH.tk 9 3 rfl (.slice (some ⟨hB, 0, none⟩) N bc) (yields_hdrF (.tmp 28) rfl ⟨BK, 0, none⟩ _ rfl rfl (fun A hA => hA.1)) hS (fun a' ha => ?_)
         simp only [zP1, zP2, zP3, zP4] at ha
         subst ha
         refine MixH.tks [false, false, false, false, false, true] 8 hS (fun K hK => ?_)
         simp only [Mix.pick]
         repeat (go_big_quiet_step (fail))
         refine wpQuiet_nil (hK _ ?_)
         clear hK K
         refine MixH.tk 7 6 rfl (.slice (some ⟨g, 0, none⟩) n c) (yields_rowF (.tmp 31) rfl ⟨hB, i, none⟩ _ rfl rfl (fun A hA => hA.2.1)) hS (fun a' ha => ?_)
         simp only [zP1, zP2, zP3, zP4] at ha
         subst ha
         refine MixH.tks [false, false, false, false, false, false, false, false, true] 6 hS (fun K hK => ?_)
         simp only [Mix.pick]
         repeat (go_big_quiet_step (fail))
         refine wpQuiet_nil (hK _ ?_)
         clear hK K
         refine MixH.tk 5 9 rfl (.agg (flC (mkN m))) (yields_flo (.tmp 34) rfl g (k * 40) (mkN m) rfl rfl (fun A hA => hA.2.2.1)) hS (fun a' ha => ?_)
         simp only [zP1, zP2, zP3, zP4] at ha
         subst ha
         refine MixH.tk 4 13 rfl (.slice (some ⟨mB, 0, none⟩) N mc) (yields_intsF (.tmp 38) rfl ⟨BK, 1, none⟩ _ rfl rfl (fun A hA => hA.2.2.2.1)) hS (fun a' ha => ?_)
         simp only [zP1, zP2, zP3, zP4] at ha
         subst ha
         refine MixH.tks [false, false, false, false, false, false, false, false, false, false, false, false, false, false, false, true] 3 hS (fun K hK => ?_)
         simp only [Mix.pick]
         repeat (go_big_quiet_step (fail))
         refine wpQuiet_nil (hK _ ?_)
         clear hK K
         refine MixH.tk 2 16 rfl (.int .i64 m) (yields_int (.tmp 41) rfl ⟨mB, i, none⟩ (.int .i64 m) rfl rfl (fun A hA => hA.2.2.2.2)) hS (fun a' ha => ?_)
         simp only [zP1, zP2, zP3, zP4] at ha
         subst ha
         refine MixH.tk 1 17 rfl (.agg (flC (mkN m))) (yields_flo1 (.tmp 42) rfl m rfl rfl) hS (fun a' ha => ?_)
         simp only [zP1, zP2, zP3, zP4] at ha
         subst ha
         refine MixH.tk 0 18 rfl (.bool false) (yields_neq_fl (.tmp 35) (.tmp 43) rfl (mkN m) (mkN m) rfl rfl false (by rw [eqF_refl]; rfl) rfl) hS (fun a' ha => ?_)
         simp only [zP1, zP2, zP3, zP4] at ha
         subst ha
         refine MixH.done (by kernel_rfl) ?_
         clear hS
         go_wp2
         go_roundw
         case rel => exact ⟨k + 1, hkn, by go_num, HBA⟩
         case measure => simp [intOf]; omega
end Go.Proofs.YtclpeepnngegaaaGreatDoor
namespace Go.Proofs.YtclpeepnngegaaaGreatDoor
open Go.RowKit Go.ChangeShapes Go.WideShapes
theorem Tryz.cellsA' : Tryz.prog.cellsOf 22 = 16 := by kernel_rfl
theorem Tryz.cellsI' : Tryz.prog.cellsOf 3 = 1 := by kernel_rfl
theorem Tryz.cellsB' : Tryz.prog.cellsOf 5 = 1 := by kernel_rfl
theorem Tryz.gS : Tryz.prog.globalNamed "weir/addr.special" = some 2 := by kernel_rfl
theorem Tryz.gSt : (Tryz.prog.globals[2]?).map (·.type) = some 114 := by kernel_rfl
theorem Tryz.cellsSp : Tryz.prog.cellsOf 113 = 19 := by kernel_rfl
theorem sp_split : ∀ l : List Value, l.length = 19 → l = (l.drop 0).take 1 ++ ((l.drop 1).take 1 ++ ((l.drop 2).take 16 ++ (l.drop 18).take 1))
 | [_, _, _, _, _, _, _, _, _, _, _, _, _, _, _, _, _, _, _], _ => rfl
set_option maxRecDepth 100000 in
theorem open_sp {W : World} {fuel : Nat} {cs : List Value} {p : List MemPlace} {a b c : Int} {zs : List Int} (hf : DataW.trod (fun _ => ()) Tryz.prog W 0 (fun _ => true) false fuel 113 cs = some (.agg [.lit (.int .i64 a), .lit (.int .i64 b), Lib.tabData .u8 zs, .lit (.int .i64 c)], p)) : cs = [.int .i64 a] ++ ([.int .i64 b] ++ (zs.map (fun z => Value.int .u8 z) ++ [.int .i64 c])) := by
 obtain ⟨xs, n, _, hx, hl, hlen, hfs⟩ := DataW.trod_struct Tryz.underlying113 hf
 rw [Tryz.cellsSp] at hl
 have hxl : xs.length = 4 := hlen
 have f0 : DataW.trod (fun _ => ()) Tryz.prog W 0 (fun _ => true) false n 3 ((cs.drop 0).take (Tryz.prog.cellsOf 3)) = xs[0]? := hfs 0 _ rfl
 have f1 : DataW.trod (fun _ => ()) Tryz.prog W 0 (fun _ => true) false n 3 ((cs.drop 1).take (Tryz.prog.cellsOf 3)) = xs[1]? := hfs 1 _ rfl
 have f2 : DataW.trod (fun _ => ()) Tryz.prog W 0 (fun _ => true) false n 22 ((cs.drop 2).take (Tryz.prog.cellsOf 22)) = xs[2]? := hfs 2 _ rfl
 have f3 : DataW.trod (fun _ => ()) Tryz.prog W 0 (fun _ => true) false n 3 ((cs.drop 18).take (Tryz.prog.cellsOf 3)) = xs[3]? := hfs 3 _ rfl
 rw [Tryz.cellsI'] at f0 f1 f3
 rw [Tryz.cellsA'] at f2
 have hd := (Prod.mk.inj hx).1
 match xs, hxl with
 | [x0, x1, (d2, p2), x3], _ =>
  simp only [List.map_cons, List.map_nil, DataW.agg.injEq, List.cons.injEq, and_true] at hd
  obtain ⟨h0, h1, h2, h3⟩ := hd
  simp only [List.getElem?_cons_zero, List.getElem?_cons_succ] at f0 f1 f2 f3
  obtain ⟨z0, e0, g0, _⟩ := DataW.trod_int Tryz.underlying3 f0
  obtain ⟨z1, e1, g1, _⟩ := DataW.trod_int Tryz.underlying3 f1
  obtain ⟨z3, e3, g3, _⟩ := DataW.trod_int Tryz.underlying3 f3
  subst g0 g1 g3 h2
  simp only [DataW.lit.injEq, Lit.int.injEq, true_and] at h0 h1 h3
  subst h0 h1 h3
  have e2 := Lib.cells_of_tab Tryz.underlying22 Tryz.underlying5 Tryz.cellsB' Tryz.cellsA' f2
  rw [sp_split cs hl, e0, e1, e2, e3]
def spRD (k : Nat) : DataW Unit := .agg [.lit (.int .i64 (cl k)), .lit (.int .i64 (vr k)), Lib.tabData .u8 ((List.range 16).map (fun i => ((nt k i : Nat) : Int))), .lit (.int .i64 (ln k : Int))]
def spD : DataW Unit := .agg ((List.range 12).map spRD)
theorem spT_chunk (k : Nat) (h : k < 12) : (spT.drop (k * 19)).take 19 = (spK k).toList := by
 have : k = 0 ∨ k = 1 ∨ k = 2 ∨ k = 3 ∨ k = 4 ∨ k = 5 ∨ k = 6 ∨ k = 7 ∨ k = 8 ∨ k = 9 ∨ k = 10 ∨ k = 11 := by omega
 rcases this with rfl | rfl | rfl | rfl | rfl | rfl | rfl | rfl | rfl | rfl | rfl | rfl <;> rfl
theorem chunk_eq (a b : List Value) (ha : a.length = 228) (hb : b.length = 228) (h : ∀ k, k < 12 → (a.drop (k * 19)).take 19 = (b.drop (k * 19)).take 19) : a = b := by
 apply List.ext_getElem?
 intro j
 by_cases hj : j < 228
 · have h1 := congrArg (fun l => l[j % 19]?) (h (j / 19) (by omega))
   simp only [List.getElem?_take, List.getElem?_drop] at h1
   rw [if_pos (by omega), if_pos (by omega)] at h1
   have e : j / 19 * 19 + j % 19 = j := by omega
   rwa [e] at h1
 · rw [List.getElem?_eq_none (by omega), List.getElem?_eq_none (by omega)]
theorem Tryz.cellsTB : Tryz.prog.cellsOf 114 = 228 := by kernel_rfl
set_option maxRecDepth 100000 in
theorem spe_cells {W : World} {fuel : Nat} {cs : List Value} {p : List MemPlace} (hf : DataW.trod (fun _ => ()) Tryz.prog W 0 (fun _ => true) false fuel 114 cs = some (spD, p)) : cs = spT := by
 obtain ⟨xs, n, _, hx, hl, hlen, hfs⟩ := DataW.trod_array Tryz.underlying114 hf
 have hl2 : cs.length = 228 := by rw [← Tryz.cellsTB]; exact hl
 have hd := (Prod.mk.inj hx).1
 have hd' : (List.range 12).map spRD = xs.map (·.1) := by simpa [spD] using hd
 refine chunk_eq cs spT hl2 rfl (fun k hk => ?_)
 rw [spT_chunk k hk]
 have f := hfs k hk
 rw [Tryz.cellsSp] at f
 have hg : (xs.map (·.1))[k]? = some (spRD k) := by rw [← hd']; simp [hk]
 rw [List.getElem?_map] at hg
 cases hx2 : xs[k]? with
 | none => rw [hx2] at hg; cases hg
 | some y =>
  obtain ⟨yd, yp⟩ := y
  rw [hx2] at hg f
  have : yd = spRD k := by simpa using hg
  subst this
  rw [open_sp f]
  rfl
theorem Tryz.gO : Tryz.prog.globalNamed "weir/flow.outTurns" = some 0 := by kernel_rfl
theorem Tryz.gOt : (Tryz.prog.globals[0]?).map (·.type) = some 79 := by kernel_rfl
theorem Tryz.gI : Tryz.prog.globalNamed "weir/flow.inTurns" = some 1 := by kernel_rfl
theorem Tryz.gIt : (Tryz.prog.globals[1]?).map (·.type) = some 79 := by kernel_rfl
theorem Tryz.cells7 : Tryz.prog.cellsOf 78 = 7 := by kernel_rfl
theorem Tryz.cells56 : Tryz.prog.cellsOf 79 = 56 := by kernel_rfl
def tnRD (L : List Int) (k : Nat) : DataW Unit := Lib.tabData .i64 ((L.drop (k * 7)).take 7)
def tnD (L : List Int) : DataW Unit := .agg ((List.range 8).map (tnRD L))
theorem chunk7 (a b : List Value) (ha : a.length = 56) (hb : b.length = 56) (h : ∀ k, k < 8 → (a.drop (k * 7)).take 7 = (b.drop (k * 7)).take 7) : a = b := by
 apply List.ext_getElem?
 intro j
 by_cases hj : j < 56
 · have h1 := congrArg (fun l => l[j % 7]?) (h (j / 7) (by omega))
   simp only [List.getElem?_take, List.getElem?_drop] at h1
   rw [if_pos (by omega), if_pos (by omega)] at h1
   have e : j / 7 * 7 + j % 7 = j := by omega
   rwa [e] at h1
 · rw [List.getElem?_eq_none (by omega), List.getElem?_eq_none (by omega)]
set_option maxRecDepth 100000 in
theorem tn_cells {W : World} {fuel : Nat} {cs : List Value} {p : List MemPlace} {L : List Int} (hL : L.length = 56) (hf : DataW.trod (fun _ => ()) Tryz.prog W 0 (fun _ => true) false fuel 79 cs = some (tnD L, p)) : cs = L.map (Value.int .i64) := by
 obtain ⟨xs, n, _, hx, hl, hlen, hfs⟩ := DataW.trod_array Tryz.underlying79 hf
 have hl2 : cs.length = 56 := by rw [← Tryz.cells56]; exact hl
 have hd := (Prod.mk.inj hx).1
 have hd' : (List.range 8).map (tnRD L) = xs.map (·.1) := by simpa [tnD] using hd
 refine chunk7 cs _ hl2 (by rw [List.length_map, hL]) (fun k hk => ?_)
 have f := hfs k hk
 rw [Tryz.cells7] at f
 have hg : (xs.map (·.1))[k]? = some (tnRD L k) := by rw [← hd']; simp [hk]
 rw [List.getElem?_map] at hg
 cases hx2 : xs[k]? with
 | none => rw [hx2] at hg; cases hg
 | some y =>
  obtain ⟨yd, yp⟩ := y
  rw [hx2] at hg f
  have : yd = tnRD L k := by simpa using hg
  subst this
  rw [Lib.cells_of_tab Tryz.underlying78 Tryz.underlying3 Tryz.cellsI' Tryz.cells7 f]
  rw [← List.map_drop, ← List.map_take]
theorem laid_tabs17 {W : World} (h : laidMet Tryz.prog [("weir/addr.special", spD), ("weir/flow.outTurns", tnD outL), ("weir/flow.inTurns", tnD inL)] W) : Gl W := by
 obtain ⟨ps, hl, _⟩ := h
 obtain ⟨g1, t1, cs1, fuel1, p1, q1, hg1, ht1, hv1, hd1, hl2, _⟩ := hl
 obtain ⟨g2, t2, cs2, fuel2, p2, q2, hg2, ht2, hv2, hd2, hl3, _⟩ := hl2
 obtain ⟨g3, t3, cs3, fuel3, p3, q3, hg3, ht3, hv3, hd3, _, _⟩ := hl3
 obtain rfl := Option.some.inj (Tryz.gS.symm.trans hg1)
 obtain rfl := Option.some.inj (Tryz.gSt.symm.trans ht1)
 obtain rfl := Option.some.inj (Tryz.gO.symm.trans hg2)
 obtain rfl := Option.some.inj (Tryz.gOt.symm.trans ht2)
 obtain rfl := Option.some.inj (Tryz.gI.symm.trans hg3)
 obtain rfl := Option.some.inj (Tryz.gIt.symm.trans ht3)
 have e1 := spe_cells hd1
 have e2 := tn_cells (L := outL) rfl hd2
 have e3 := tn_cells (L := inL) rfl hd3
 refine ⟨fun j v hv => ?_, fun j v hv => ?_, fun j v hv => ?_⟩
 · rw [Nat.zero_add, World.var?_cell Tryz.gS hv1 j, ← Array.getElem?_toList, e1]
   exact hv
 · rw [Nat.zero_add, World.var?_cell Tryz.gO hv2 j, ← Array.getElem?_toList, e2]
   exact hv
 · rw [Nat.zero_add, World.var?_cell Tryz.gI hv3 j, ← Array.getElem?_toList, e3]
   exact hv
end Go.Proofs.YtclpeepnngegaaaGreatDoor
namespace Go.Proofs.YtclpeepnngegaaaGreatDoor
theorem bulk_pos {H : Type} (d : DataW H) : 1 ≤ Rows.uptoBulk d := by
 cases d with
 | lit l => cases l <;> simp [Rows.uptoBulk]
 | nil => simp [Rows.uptoBulk]
 | ptr d => simp [Rows.uptoBulk]
 | slice elems spare => simp [Rows.uptoBulk]
 | agg parts => simp [Rows.uptoBulk]
 | iface t d => simp [Rows.uptoBulk]
 | map entries => simp [Rows.uptoBulk]
 | held h => simp [Rows.uptoBulk]
theorem bulk_len {H : Type} (l : List (DataW H)) : l.length ≤ Rows.uptoBulkAll l := by
 induction l with
 | nil => simp [Rows.uptoBulkAll]
 | cons x r ih => have := bulk_pos x; simp only [Rows.uptoBulkAll, List.length_cons]; omega
theorem bulk_of {H : Type} {l : List (DataW H)} (hk : Rows.uptoSmall H l = true) : Rows.uptoBulkAll l ≤ 1048576 := of_decide_eq_true hk
end Go.Proofs.YtclpeepnngegaaaGreatDoor
namespace Go.Proofs.YtclpeepnngegaaaGreatDoor
open Go.RowKit Go.ChangeShapes Go.WideShapes
def ListG {α : Type} (K : Nat) (cells : α → List Value) (ok : α → Prop) (w : World) (a : Option Addr) (ops : List α) : Prop :=
 ops = [] ∨ ∃ b off, a = some ⟨b, off, none⟩ ∧ b < w.heap.size ∧ ∀ (i : Nat) (o : α), ops[i]? = some o → ok o ∧ ∀ j, j < K → w.cell? ⟨b, off + i * K + j, none⟩ = (cells o)[j]?
theorem ListG.old {α : Type} {K : Nat} {cells : α → List Value} {ok : α → Prop} {w w' : World} {a : Option Addr} {ops : List α} (h : ListG K cells ok w a ops) (hb : Below w.heap.size w w') : ListG K cells ok w' a ops := by
 rcases h with h | ⟨b, off, ha, hlt, hc⟩
 · exact .inl h
 · refine .inr ⟨b, off, ha, by have := hb.size; omega, fun i o ho => ⟨(hc i o ho).1, fun j hj => ?_⟩⟩
   rw [hb.cell (p := ⟨b, off + i * K + j, none⟩) hlt]
   exact (hc i o ho).2 j hj
theorem ListG.at {α : Type} {K : Nat} {cells : α → List Value} {ok : α → Prop} {w : World} {a : Option Addr} {ops : List α} (h : ListG K cells ok w a ops) (i : Nat) (o : α) (ho : ops[i]? = some o) :
    ok o ∧ ∃ b off, a = some ⟨b, off, none⟩ ∧ b < w.heap.size ∧ ∀ j, j < K → w.cell? ⟨b, off + i * K + j, none⟩ = (cells o)[j]? := by
  rcases h with h | ⟨b, off, ha, hlt, hc⟩
  · rw [h] at ho; simp at ho
  · exact ⟨(hc i o ho).1, b, off, ha, hlt, (hc i o ho).2⟩
theorem bulk_memG {H : Type} {d : DataW H} {l : List (DataW H)} (h : d ∈ l) : Rows.uptoBulk d ≤ Rows.uptoBulkAll l := by
 induction l with
 | nil => cases h
 | cons x r ih =>
  simp only [Rows.uptoBulkAll]
  cases List.mem_cons.1 h with
  | inl e => subst e; omega
  | inr e => have := ih e; omega
theorem open_list {α : Type} (K : Nat) (cells : α → List Value) (ok : α → Prop) {H : Type} {enc : TypeId × Value → H} {W : World} {t e : TypeId} {a : Option Addr} {len cap : Nat} {d : DataW H} {p : List MemPlace} {fuel : Nat}
    (ht : Tryz.prog.underlying t = some (.slice e)) (hc : Tryz.prog.cellsOf e = K) (hK : 0 < K) (hcl : ∀ o, (cells o).length = K)
    (hel : ∀ (fuel : Nat) (cs : List Value) (x : DataW H × List MemPlace), DataW.trod enc Tryz.prog W 0 (fun _ => true) true fuel e cs = some x → Rows.uptoBulk x.1 ≤ 1048576 → ∃ o : α, cs = cells o ∧ ok o)
    (h : DataW.trod enc Tryz.prog W 0 (fun _ => true) true fuel t [.slice a len cap] = some (d, p)) (hbulk : Rows.uptoBulk d ≤ 1048576) :
    ∃ ops : List α, ops.length = len ∧ ListG K cells ok W a ops ∧ len ≤ 1048576 := by
  rcases Deep.open_slice ht h with ⟨hcs, hx⟩ | ⟨ad, l, c, m, n, D, Pl, hcs, _, hl, hm, hmm, hx, hev⟩
  · simp only [List.cons.injEq, Value.slice.injEq, and_true] at hcs
    obtain ⟨rfl, rfl, rfl⟩ := hcs
    exact ⟨[], rfl, .inl rfl, by omega⟩
  · simp only [List.cons.injEq, Value.slice.injEq, and_true] at hcs
    obtain ⟨rfl, rfl, rfl⟩ := hcs
    simp only [if_true] at hmm
    subst hmm
    have e' := (Prod.mk.inj hx).1
    subst e'
    simp only [Rows.uptoBulk] at hbulk
    have hlen : len ≤ 1048576 := by
     have := bulk_len ((List.range len).map D)
     simp only [List.length_map, List.length_range] at this
     omega
    have hD : ∀ i, i < len → Rows.uptoBulk (D i) ≤ 1048576 := fun i hi => by
     have := bulk_memG (d := D i) (l := (List.range len).map D) (List.mem_map.2 ⟨i, List.mem_range.2 hi, rfl⟩)
     omega
    have hall : ∀ i, i < len → ∃ o : α, ok o ∧ ∀ j, j < K → W.cell? (ad.add (i * K + j)) = (cells o)[j]? := by
     intro i hi
     obtain ⟨cs', h1, h2⟩ := hev i (by omega)
     rw [hc] at h1
     obtain ⟨_, _, hcc⟩ := World.cells?_some h1
     obtain ⟨o, rfl, hok⟩ := hel _ _ _ h2 (hD i hi)
     refine ⟨o, hok, fun j hj => ?_⟩
     have := hcc j hj
     rwa [Deep.add_add] at this
    have hbuild : ∀ k, k ≤ len → ∃ ops : List α, ops.length = k ∧ ∀ i o, ops[i]? = some o → ok o ∧ ∀ j, j < K → W.cell? (ad.add (i * K + j)) = (cells o)[j]? := by
     intro k
     induction k with
     | zero => intro _; exact ⟨[], rfl, by intro i o ho; simp at ho⟩
     | succ k ih =>
      intro hk
      obtain ⟨ops, hl', hops⟩ := ih (by omega)
      obtain ⟨o, ho⟩ := hall k (by omega)
      refine ⟨ops ++ [o], by simp [hl'], ?_⟩
      intro i o' hi'
      by_cases hik : i < k
      · rw [List.getElem?_append_left (by omega)] at hi'
        exact hops i o' hi'
      · rw [List.getElem?_append_right (by omega)] at hi'
        have hi0 : i = k := by
         have := (List.getElem?_eq_some_iff.1 hi').1
         simp at this
         omega
        subst hi0
        rw [hl', Nat.sub_self] at hi'
        simp at hi'
        subst hi'
        exact ho
    obtain ⟨ops, hol, hops⟩ := hbuild len (Nat.le_refl _)
    refine ⟨ops, hol, ?_, hlen⟩
    by_cases h0 : ops = []
    · exact .inl h0
    · have hpos : 0 < ops.length := by
        cases ops with
        | nil => exact absurd rfl h0
        | cons _ _ => simp
      obtain ⟨o, ho⟩ : ∃ o, ops[0]? = some o := ⟨ops[0], by simp [hpos]⟩
      have hc0 := (hops 0 o ho).2 0 hK
      simp only [Nat.zero_mul, Nat.zero_add] at hc0
      obtain ⟨v0, hv0⟩ : ∃ v0, (cells o)[0]? = some v0 := ⟨(cells o)[0]'(by rw [hcl]; exact hK), by simp [hcl, hK]⟩
      rw [hv0] at hc0
      obtain ⟨b, off, spot⟩ := ad
      have hspot : spot = none := by simpa [Addr.add] using World.cell?_spot hc0
      subst hspot
      refine .inr ⟨b, off, rfl, World.block_lt_of_cell? W _ hc0, fun i o' hi' => ⟨(hops i o' hi').1, fun j hj => ?_⟩⟩
      have := (hops i o' hi').2 j hj
      rw [Addr.add_lit] at this
      rw [Nat.add_assoc]
      exact this
end Go.Proofs.YtclpeepnngegaaaGreatDoor
