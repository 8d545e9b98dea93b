/-
  FBk2: lemmas of the proof of FlowPlays, and walks through the functions that it calls.
-/
import Derived.Test.YtclpeepnngegaaaGreatDoorP00
import Derived.Test.YtclpeepnngegaaaGreatDoorP32
import Derived.Test.YtclpeepnngegaaaGreatDoorP37
namespace Go.Proofs.YtclpeepnngegaaaGreatDoor.MixJ
open Go.Proofs.YtclpeepnngegaaaGreatDoor.Mix
def wpC (P : Program) (ops : Array Oper) (Q : Exit → Act → World → Prop) (S : World → Prop) (j0 : Nat) (L1 : Array Bool) (R : Act → World → Prop) : Nat → Array Bool → Act → World → Prop
 | 0, listed, a, w => listed = L1 ∧ R a w
 | n + 1, listed, a, w => Region.ready .any ops listed ≠ [] ∧ ∀ i ∈ Region.ready .any ops listed, wpOp P ops Q i (fun a' w' => (i ≠ j0 → S w') ∧ wpC P ops Q S j0 L1 R n (listed.setIfInBounds i true) a' w') a w
theorem ofC {P : Program} {ops : Array Oper} {Q : Exit → Act → World → Prop} {S : World → Prop} {j0 : Nat} {L1 : Array Bool} {R : Act → World → Prop} (k1 : Nat) (hT : ∀ a w, R a w → wpJ P ops Q S j0 k1 L1 a w) : ∀ (n : Nat) (listed : Array Bool) (a : Act) (w : World), wpC P ops Q S j0 L1 R n listed a w → wpJ P ops Q S j0 (k1 + n) listed a w
 | 0, _, a, w, h => by rw [h.1]; exact hT a w h.2
 | n + 1, _, _, _, h => ⟨fun h0 => absurd h0 h.1, fun i hi => wpOp_mono (fun a' w' h' => ⟨h'.1, ofC k1 hT n _ a' w' h'.2⟩) (h.2 i hi)⟩
theorem manyC {P : Program} {l : List Oper} {Q : Exit → Act → World → Prop} {S : World → Prop} {j0 F : Nat} {L1 : Array Bool} {R : Act → World → Prop} {listed : Array Bool} {a : Act} {w : World} (is : List Nat) (fuel : Nat) (hr : Region.ready .any l.toArray listed = is) (hne : is ≠ []) (hF : F = fuel + 1)
    (h : ∀ i, i ∈ is → ∃ o, l[i]? = some o ∧ ∀ K : Act → World → Prop, (∀ a' w', (i ≠ j0 → S w') → wpC P l.toArray (only Q) S j0 L1 R fuel (listed.setIfInBounds i true) a' w' → K a' w') → wpList P l.toArray (only fun _ => K) [o] a w) : wpC P l.toArray (only Q) S j0 L1 R F listed a w := by
  subst hF
  refine ⟨fun h0 => absurd (hr ▸ h0) hne, fun m hm => ?_⟩
  rw [hr] at hm
  obtain ⟨o, hi, h1⟩ := h m hm
  have h0 := h1 _ (fun _ _ hs h => (⟨hs, h⟩ : _ ∧ _))
  have hi' : l.toArray[m]? = some o := by simpa using hi
  unfold wpOp
  simp only [hi']
  unfold wpList at h0
  split
  · rename_i hw
    rw [if_pos hw] at h0
    rcases h0 with h0 | ⟨_, h0⟩
    · exact .inl (wp_only (fun a w h => h.2) h0)
    · exact absurd h0 (no_out _)
  · rename_i hw
    rw [if_neg hw] at h0
    exact h0.2
def sets (t : Array Value) (vs : List (Nat × Value)) : Array Value := vs.foldl (fun t p => t.setIfInBounds p.1 p.2) t
theorem cut {P : Program} {l : List Oper} {Q : Exit → Act → World → Prop} {S : World → Prop} {j0 F : Nat} {listed : Array Bool} {a : Act} {w : World} (n k1 : Nat) (L1 : Array Bool) (RR : List (Nat × Value) → World → Prop) (hF : F = k1 + n) (tree : wpC P l.toArray (only Q) S j0 L1 (fun a' w' => ∃ vs, a' = ⟨sets a.tmps vs, a.defers⟩ ∧ RR vs w') n listed a w)
    (tail : ∀ vs w', RR vs w' → wpJ P l.toArray (only Q) S j0 k1 L1 ⟨sets a.tmps vs, a.defers⟩ w') : wpJ P l.toArray (only Q) S j0 F listed a w := by
  subst hF
  exact ofC k1 (fun a' w' h => by obtain ⟨vs, rfl, h⟩ := h; exact tail vs w' h) n _ _ _ tree
end Go.Proofs.YtclpeepnngegaaaGreatDoor.MixJ
namespace Go.Proofs.YtclpeepnngegaaaGreatDoor
open Go.RowKit Go.Maps
theorem Tryz.infoRowF : (Tryz.prog.info? 34).map (fun i => (i.zero, i.size, i.bytes)) = some (some (.slice none 0 0), 1, 24) := by kernel_rfl
theorem Tryz.infoIntF : (Tryz.prog.info? 3).map (fun i => (i.zero, i.size, i.bytes)) = some (some (.int .i64 0), 1, 8) := by kernel_rfl
theorem mkF_pos (m : Int) : 0 < (mkF m).length := by show 0 < 40; omega
theorem mkF_one (m : Int) : ∀ u ∈ mkF m, u.oneCell' = true := fun u hu => flC_one (mkN m) u hu
theorem bs_rep1 (m : Int) : (flC (mkN m)).toList = rep 1 (mkF m) := by simp [rep, mkF]
theorem bs_rep2 (m : Int) : ((flC (mkN m)).toList ++ (flC (mkN m)).toList).toArray.toList = rep 2 (mkF m) := by simp [rep, mkF, List.replicate_succ]
theorem bs_rep3 (m : Int) : ((flC (mkN m)).toList ++ ((flC (mkN m)).toList ++ (flC (mkN m)).toList)).toArray.toList = rep 3 (mkF m) := by simp [rep, mkF, List.replicate_succ]
theorem al_rng {W : World} {A : List (Nat × Nat)} {lv : Value} {P5 : Nat} {m : Int} (h : ∀ p, p ∈ A → (∀ j u, (rep p.2 (mkF m))[j]? = some u → W.cell? ⟨p.1, j, none⟩ = some u) ∧ lv.ownBlock ≠ some p.1) (hA : (P5, 1) ∈ A) : W.rangeAt P5 0 (flC (mkN m)).toList := fun j u hu => by
 rw [Nat.zero_add]
 exact (h (P5, 1) hA).1 j u (by rw [← bs_rep1]; exact hu)
theorem fill_next {S : List FN} {f : FN} {k n : Nat} (_hn : S.length = n) (_hk : k < n) : (List.replicate k f ++ S.drop k).take k ++ f :: (List.replicate k f ++ S.drop k).drop (k + 1) = List.replicate (k + 1) f ++ S.drop (k + 1) := by
 have l1 : (List.replicate k f).length = k := List.length_replicate
 rw [List.take_left' l1, List.drop_append, l1, List.drop_of_length_le (by omega), List.nil_append, List.drop_drop, List.replicate_succ', List.append_assoc]
 have e : k + (k + 1 - k) = k + 1 := by omega
 rw [e]
 rfl
theorem run_flo1 (p : Int) (w : World) : (Instr.build 72 #[(1, .int .i64 p)]).run Tryz.prog w = .ok (.agg (flC (mkN p))) w := by kernel_rfl
theorem wpList_flo1 {ops : Array Oper} {rest : List Oper} {o : Oper} {a_ : Act} {w : World} {Q : Exit → Act → World → Prop} (y0 : Operand) (ho : o.op = .build 72 #[(1, y0)]) (p : Int) (h0 : a_.eval y0 = .int .i64 p) (hw : Region.wanted o (yielded ops a_.tmps) = true)
    (h : wpList Tryz.prog ops Q rest (a_.put o.dst (.agg (flC (mkN p)))) w) : wpList Tryz.prog ops Q (o :: rest) a_ w := by
  refine wpList_step fun K hK => ?_
  rw [if_pos hw]
  have hrun : (execOp a_.eval o).run Tryz.prog w = .ok (.value (.agg (flC (mkN p)))) w := by
   obtain ⟨dst, op, type, pos, after, guard⟩ := o
   simp only at ho
   subst ho
   simp only [execOp, Sem.run_bind, List.map_toArray, List.map_cons, List.map_nil, h0, run_flo1 p w, Result.andThen_ok]
   rfl
  unfold Oper.wp
  rw [hrun]
  exact hK _ _ h
theorem yields_hdrF {ops : Array Oper} {o : Oper} {a : Act} {S : World → Prop} (x : Operand) (ho : o.op = .load 29 x) (p : Addr) (u : Value) (hx : a.eval x = .pointer (some p)) (hw : Region.wanted o (yielded ops a.tmps) = true) (hS : ∀ w, S w → w.cell? p = some u) : YieldsIf Tryz.prog ops S o u a := by
 refine .inl ⟨hw, fun w hb => ?_⟩
 have hc := hS w hb
 have hu := Tryz.underlying29
 obtain ⟨dst, op, type, pos, after, guard⟩ := o
 simp only at ho
 subst ho
 simp only [execOp, Sem.run_bind, Sem.run_pure]
 rw [hx]
 simp [Instr.loadAt, go_sem, hc]
def Nw (w : World) (k : Nat) (m : Int) (X : Nat) (W : World) : Prop := w.heap.size = X ∧ ∃ cs t, cs.toList = rep k (mkF m) ∧ w.alloc (.cells cs t) = W
theorem ByS.nw {w0 : World} {BK : Nat} {b : BV} {e : TypeId} {m : Int} {lv : Value} {n T : Nat} {F : List (Value × Nat)} {A : List (Nat × Nat)} {w W : World} {k X : Nat} (h : ByS w0 BK b e (mkF m) lv n T F A w) (hn : Nw w k m X W) : ByS w0 BK b e (mkF m) lv n T F ((X, k) :: A) W := by
 obtain ⟨rfl, cs, t, hcs, rfl⟩ := hn
 exact h.new k cs t hcs
theorem wpList_mk1 {ops : Array Oper} {rest : List Oper} {o : Oper} {a : Act} {w : World} {Q : Exit → Act → World → Prop} (x : Operand) (ho : o.op = .buildSlice 34 1 #[(0, x)]) (m : Int) (hx : a.eval x = .agg (flC (mkN m))) (hw : Region.wanted o (yielded ops a.tmps) = true)
    (h : ∀ X W, Nw w 1 m X W → wpList Tryz.prog ops Q rest (a.put o.dst (.slice (some ⟨X, 0, none⟩) 1 1)) W) : wpList Tryz.prog ops Q (o :: rest) a w := wpList_bs1f x ho (mkN m) hx hw (h _ _ ⟨rfl, _, _, bs_rep1 m, rfl⟩)
theorem wpList_mk2 {ops : Array Oper} {rest : List Oper} {o : Oper} {a : Act} {w : World} {Q : Exit → Act → World → Prop} (x y : Operand) (ho : o.op = .buildSlice 34 2 #[(0, x), (1, y)]) (m : Int) (hx : a.eval x = .agg (flC (mkN m))) (hy : a.eval y = .agg (flC (mkN m))) (hw : Region.wanted o (yielded ops a.tmps) = true)
    (h : ∀ X W, Nw w 2 m X W → wpList Tryz.prog ops Q rest (a.put o.dst (.slice (some ⟨X, 0, none⟩) 2 2)) W) : wpList Tryz.prog ops Q (o :: rest) a w := wpList_bs2f x y ho (mkN m) (mkN m) hx hy hw (h _ _ ⟨rfl, _, _, bs_rep2 m, rfl⟩)
theorem wpList_mk3 {ops : Array Oper} {rest : List Oper} {o : Oper} {a : Act} {w : World} {Q : Exit → Act → World → Prop} (x y z : Operand) (ho : o.op = .buildSlice 34 3 #[(0, x), (1, y), (2, z)]) (m : Int) (hx : a.eval x = .agg (flC (mkN m))) (hy : a.eval y = .agg (flC (mkN m))) (hz : a.eval z = .agg (flC (mkN m))) (hw : Region.wanted o (yielded ops a.tmps) = true)
    (h : ∀ X W, Nw w 3 m X W → wpList Tryz.prog ops Q rest (a.put o.dst (.slice (some ⟨X, 0, none⟩) 3 3)) W) : wpList Tryz.prog ops Q (o :: rest) a w := wpList_bs3f x y z ho (mkN m) (mkN m) (mkN m) hx hy hz hw (h _ _ ⟨rfl, _, _, bs_rep3 m, rfl⟩)
theorem wpList_appMk {ops : Array Oper} {rest : List Oper} {o : Oper} {a : Act} {w : World} {Q : Exit → Act → World → Prop} (hgd : o.guard = none) (s x : Operand) (ho : o.op = .call { callee := .builtin .append, args := #[s, x], argTypes := #[34, 34] })
    {w0 : World} {BK : Nat} {b : BV} {m : Int} {lv : Value} {n T : Nat} {F : List (Value × Nat)} {A : List (Nat × Nat)} (H : ByS w0 BK b 72 (mkF m) lv n T F A w) (hs : a.eval s = lv) (X k : Nat) (hx : a.eval x = .slice (some ⟨X, 0, none⟩) k k) (hA : (X, k) ∈ A) (hT : T ≤ k) (hk : n + k ≤ 70000)
    (h : ∀ va vc w', ByS w0 BK b 72 (mkF m) lv n k (F ++ [(.slice va (n + k) vc, n + k)]) A w' → wpList Tryz.prog ops Q rest (a.put o.dst (.slice va (n + k) vc)) w') : wpList Tryz.prog ops Q (o :: rest) a w := by
  obtain ⟨i0, z0, hi0, hz0, hz1, hz2, hz3⟩ := Tryz.infoF
  refine append_fy hgd s x 34 ho 0 72 i0 z0 i0.bytes (mkF m) (mkF_pos m) Tryz.underlying34 hi0 hz0 hz1 rfl hz2 lv n T F hs H.fy ⟨X, 0, none⟩ k k hx hT (H.news hA) (mkF_one m) (by unfold maxLen; omega) (Nat.le_trans (Nat.mul_le_mul hk hz3) (by decide)) (Nat.zero_le _) ?_
  intro v' w' ff
  obtain ⟨f1, f2, f3, va, vc, rfl⟩ := ff.out
  exact h va vc w' (H.app f1 f2 f3)
def RESG (w : World) (BK : Nat) (b : BV) (la : Option Addr) (lc n : Nat) (m : Int) (W : World) : Prop :=
 ∃ (u : Value) (vs : List (Value × Nat)), (BkM W BK { b with hl := u, G := b.G ++ vs.map (fun r => (r.1, r.2, m)) } ∧ Ch (fun x => BB BK b x ∨ (Value.slice la n lc).ownBlock = some x) w W ∧ (∀ x, BB BK { b with hl := u, G := b.G ++ vs.map (fun r => (r.1, r.2, m)) } x → BB BK b x ∨ (Value.slice la n lc).ownBlock = some x ∨ w.heap.size ≤ x)) ∧ vs.length = 4 ∧ ∀ r, r ∈ vs.map (fun r => (r.1, r.2, m)) → r.2.2 = m
def BkD (w : World) (BK : Nat) (b : BV) (own : Nat → Prop) (w' : World) : Prop :=
 ∃ b', BkM w' BK b' ∧ b'.Mg = b'.G.map (fun r => r.2.2) ∧ b'.G.length ≤ b.G.length + 4 ∧ (∀ x, BB BK b' x → BB BK b x ∨ own x ∨ w.heap.size ≤ x) ∧ Ch (fun x => BB BK b x ∨ own x) w w'
set_option maxRecDepth 100000 in
set_option maxHeartbeats 51200000 in
theorem take_any (w : World) (BK : Nat) (b : BV) (h : BkM w BK b) (hG : b.Mg = b.G.map (fun r => r.2.2)) (la : Option Addr) (lc n : Nat) (S : List FN) (hl : FL w 0 (.slice la n lc) S) (hSn : S.length = n) (hn : n ≤ 65535) (hN : b.G.length ≤ 100000) (hnb : ∀ q, (Value.slice la n lc).ownBlock = some q → ¬ BB BK b q) :
    Calls Tryz.prog 21 #[.pointer (some ⟨BK, 0, none⟩), .slice la n lc] w fun r w' => r = .returned (.tuple #[]) ∧ BkD w BK b (fun q => (Value.slice la n lc).ownBlock = some q) w' := by
  obtain ⟨i1, hi1, hy0, hy1, hy2⟩ := info_parts Tryz.infoRowF
  obtain ⟨i2, hi2, hx0, hx1, hx2⟩ := info_parts Tryz.infoIntF
  obtain ⟨ba, bc, hbv⟩ := owns_shape h.og
  obtain ⟨N, hNN⟩ : ∃ N, N = b.G.length := ⟨_, rfl⟩
  rw [← hNN] at hbv hN
  obtain ⟨m, hm⟩ : ∃ m : Int, m = -(N : Int) - 7 := ⟨_, rfl⟩
  have wa : IntKind.i64.wrap (-(N : Int)) = -(N : Int) := by rw [IntKind.wrap_i64]; omega
  have wu : IntKind.i64.wrap (-(N : Int) - 7) = m := by rw [IntKind.wrap_i64]; omega
  have HBV : Hid (b.hl = .slice ba N bc) := hbv
  have HEN : Hid (b.G.length = N) := hNN.symm
  have HE : Hid (b.Mg = b.G.map (fun r => r.2.2)) := hG
  have HLT : Hid (∀ x, BB BK b x → x < w.heap.size) := h.lt
  have HNB : Hid (∀ q, (Value.slice la n lc).ownBlock = some q → ¬ BB BK b q) := hnb
  have HSN : Hid (S.length = n) := hSn
  have c0 := h.c0
  rw [hbv] at c0
  obtain ⟨Yf, P5, -, HOF, HLF, HEF, hb⟩ := zBx w (flC fz0) 72
  have HNF : Hid (FloAt Yf P5 fz0) := hb
  clear hb
  have HP5 : Hid (¬ b.hl.ownBlock = some P5) := fun e => by have := h.lt P5 (.inr (.inl e)); have := HOF.out; omega
  have HPL : Hid ((Value.slice la n lc).ownBlock ≠ some P5 ∧ w.heap.size ≤ P5) := ⟨fun e => by have := fl_lt hl e; have := HOF.out; omega, by have := HOF.out; omega⟩
  have H : Hid (BkM w BK b ∧ FL w 0 (.slice la n lc) S) := ⟨h, hl⟩
  clear hbv hNN h hG hl hnb hm hSn
  go_enter Tryz.func21, Tryz.ntmps21
  go_upto_region 1 with fail
  go_upto_region 2 with (first | (refine wpList_alloc_flo rfl rfl ?_; rw [HEF.out, HOF.out]) | (refine wpList_flo1 (.tmp 14) rfl m rfl rfl ?_) | (refine wpList_store_flo (.tmp 5) (.tmp 15) rfl rfl P5 fz0 (mkN m) rfl rfl HNF.out rfl ?_; intro w1 h1 k1))
  have HB1 : Hid (Below w.heap.size w w1) := HLF.out.trans (k1.below (fun q hq => by have e' : q = P5 := hq; have := HPL.out.2; omega) HLF.out.size)
  have HP0 : Hid (FloAt w1 P5 (mkN m)) := h1
  have HBK : Hid (BkM w1 BK b) := H.out.1.below HB1.out
  have HL0 : Hid (FL w1 0 (.slice la n lc) (List.replicate 0 (mkN m) ++ S.drop 0) ∧ Ch (fun q => (Value.slice la n lc).ownBlock = some q) w1 w1) := ⟨by have := H.out.2.below HB1.out; simpa using this, Ch.refl _ _⟩
  clear h1 k1 H c0
  go_wp2_with fail
  go_loopw [6] (fun ix wr => ∃ k : Nat, k ≤ n ∧ ix = .int .i64 (k : Int) ∧ Hid (FL wr 0 (.slice la n lc) (List.replicate k (mkN m) ++ S.drop k) ∧ Ch (fun q => (Value.slice la n lc).ownBlock = some q) w1 wr)) (fun ix _ => n - (intOf ix).toNat)
  case atStart => exact ⟨0, Nat.zero_le _, rfl, HL0.out⟩
  case round =>
   obtain ⟨k, hk, rfl, HK⟩ := hrel
   clear HL0
   by_cases hge : n ≤ k
   · obtain rfl : k = n := by omega
     have d0 : ¬ (k : Int) < (k : Int) := by omega
     have H1 : Hid (ByS w BK b 72 (mkF m) (.slice la k lc) k 0 [] [(P5, 1)] wr) := by
      refine ⟨⟨?_, fun r hr => by simp at hr⟩, HBK.out.ch HK.out.2 (fun x hx q => HNB.out x q hx), (Ch.ofBelow (S := fun q => (Value.slice la k lc).ownBlock = some q) HB1.out).trans HK.out.2 (fun _ _ q => q), ?_, HNB.out, fun r hr => by simp at hr⟩
      · have h1 := HK.out.1
        rw [List.drop_of_length_le (by rw [HSN.out]; exact Nat.le_refl _), List.append_nil] at h1
        have h2 : wr.ownsRow 0 72 40 (.slice la k lc) (List.replicate k (mkN m)).length (fcs (List.replicate k (mkN m))) := h1
        rw [List.length_replicate, ← rep_fcs] at h2
        exact h2
      · intro p hp
        rw [List.mem_singleton.1 hp]
        refine ⟨?_, HPL.out.1⟩
        intro j u hu
        have hu' : (rep 1 (mkF m))[j]? = some u := hu
        rw [← bs_rep1] at hu'
        refine HK.out.2.cell ?_ HPL.out.1
        rw [HP0.out.cell]
        simpa using hu'
     have HSS : Hid (∀ (T : Nat) (F : List (Value × Nat)) (A : List (Nat × Nat)) (W : World), ByS w BK b 72 (mkF m) (.slice la k lc) k T F A W → (P5, 1) ∈ A → (W.cell? ⟨BK, 0, none⟩ = some (.slice ba N bc) ∧ W.rangeAt P5 0 (flC (mkN m)).toList)) := by
      intro T F A W hW hA
      refine ⟨?_, al_rng hW.al hA⟩
      have := hW.bk.c0
      rw [HBV.out] at this
      exact this
     clear hge hk HK HP0 HPL HB1 HBK
     go_upto_region 6 with fail
     go_cut [] (fun wx => Hid (RESG w BK b la lc k m wx))
     case first =>
      refine MixJ.start (fun A => A.cell? ⟨BK, 0, none⟩ = some (.slice ba N bc) ∧ A.rangeAt P5 0 (flC (mkN m)).toList) 25 (by kernel_rfl) ?_
      obtain ⟨wA, hwA⟩ : ∃ wA, wA = wr.drew := ⟨_, rfl⟩
      have H0 : Hid (ByS w BK b 72 (mkF m) (.slice la k lc) k 0 [] [(P5, 1)] wA) := by rw [hwA]; exact H1.out.below (drew_below (Below.refl _ _))
      rw [← hwA]
      clear hwA H1
      have hS := HSS.out _ _ _ _ H0.out (by simp)
      refine MixJ.takes [true, true, true, true] 22 (by kernel_rfl) (by kernel_rfl) (by decide) (by kernel_rfl) (by kernel_rfl) (hS) (fun K hK => ?_)
      simp only [Mix.pick]
      repeat (go_big_quiet_step (fail))
      refine wpQuiet_nil (hK _ ?_)
      clear hK K
      refine MixJ.take 21 4 _ (.slice ba N bc) rfl (by kernel_rfl) (by kernel_rfl) (by kernel_rfl) (by kernel_rfl) (by kernel_rfl) (by kernel_rfl) (yields_hdrF (.tmp 29) rfl ⟨BK, 0, none⟩ _ rfl rfl (fun A hA => hA.1)) (hS) (fun a' ha => ?_)
      simp only [zP1, zP2, zP3, zP4] at ha
      subst ha
      refine MixJ.takes [false, false, false, false, false, true, true, false, false, false, true, false, false, false, false, true] 17 (by kernel_rfl) (by kernel_rfl) (by decide) (by kernel_rfl) (by kernel_rfl) (hS) (fun K hK => ?_)
      simp only [Mix.pick]
      repeat (go_big_quiet_step (fail))
      refine wpQuiet_nil (hK _ ?_)
      clear hK K
      refine MixJ.take 16 7 _ (.agg (flC (mkN m))) rfl (by kernel_rfl) (by kernel_rfl) (by kernel_rfl) (by kernel_rfl) (by kernel_rfl) (by kernel_rfl) (yields_flo (.tmp 5) rfl P5 0 (mkN m) rfl rfl (fun A hA => hA.2)) (hS) (fun a' ha => ?_)
      simp only [zP1, zP2, zP3, zP4] at ha
      subst ha
      refine MixJ.take 15 11 _ (.agg (flC (mkN m))) rfl (by kernel_rfl) (by kernel_rfl) (by kernel_rfl) (by kernel_rfl) (by kernel_rfl) (by kernel_rfl) (yields_flo (.tmp 5) rfl P5 0 (mkN m) rfl rfl (fun A hA => hA.2)) (hS) (fun a' ha => ?_)
      simp only [zP1, zP2, zP3, zP4] at ha
      subst ha
      refine MixJ.take 14 12 _ (.agg (flC (mkN m))) rfl (by kernel_rfl) (by kernel_rfl) (by kernel_rfl) (by kernel_rfl) (by kernel_rfl) (by kernel_rfl) (yields_flo (.tmp 5) rfl P5 0 (mkN m) rfl rfl (fun A hA => hA.2)) (hS) (fun a' ha => ?_)
      simp only [zP1, zP2, zP3, zP4] at ha
      subst ha
      refine MixJ.take 13 16 _ (.agg (flC (mkN m))) rfl (by kernel_rfl) (by kernel_rfl) (by kernel_rfl) (by kernel_rfl) (by kernel_rfl) (by kernel_rfl) (yields_flo (.tmp 5) rfl P5 0 (mkN m) rfl rfl (fun A hA => hA.2)) (hS) (fun a' ha => ?_)
      simp only [zP1, zP2, zP3, zP4] at ha
      subst ha
      refine MixJ.take 12 17 _ (.agg (flC (mkN m))) rfl (by kernel_rfl) (by kernel_rfl) (by kernel_rfl) (by kernel_rfl) (by kernel_rfl) (by kernel_rfl) (yields_flo (.tmp 5) rfl P5 0 (mkN m) rfl rfl (fun A hA => hA.2)) (hS) (fun a' ha => ?_)
      simp only [zP1, zP2, zP3, zP4] at ha
      subst ha
      refine MixJ.take 11 18 _ (.agg (flC (mkN m))) rfl (by kernel_rfl) (by kernel_rfl) (by kernel_rfl) (by kernel_rfl) (by kernel_rfl) (by kernel_rfl) (yields_flo (.tmp 5) rfl P5 0 (mkN m) rfl rfl (fun A hA => hA.2)) (hS) (fun a' ha => ?_)
      simp only [zP1, zP2, zP3, zP4] at ha
      subst ha
      clear hS
      refine MixJ.cut 6 5 #[true, true, true, true, true, true, true, true, true, true, true, true, true, true, true, true, true, true, true, true, true, false, false, false, false, false] (fun vs W => ∃ X8 X13 X19 a1 c1 a2 c2 a3 c3, vs = [(34, .slice (some ⟨X8, 0, none⟩) 1 1), (35, .slice a1 (k + 1) c1), (39, .slice (some ⟨X13, 0, none⟩) 2 2), (40, .slice a2 (k + 2) c2), (45, .slice (some ⟨X19, 0, none⟩) 3 3), (46, .slice a3 (k + 3) c3)] ∧ ByS w BK b 72 (mkF m) (.slice la k lc) k 3 [(.slice a1 (k + 1) c1, k + 1), (.slice a2 (k + 2) c2, k + 2), (.slice a3 (k + 3) c3, k + 3)] [(P5, 1)] W) (by kernel_rfl) ?tree ?tail
      case tree =>
       refine MixJ.manyC [8, 13, 19] 5 (by kernel_rfl) (by decide) (by kernel_rfl) ?_
       intro i hi
       simp only [zMc, zMn, or_false] at hi
       rcases hi with rfl | rfl | rfl
       · refine ⟨_, rfl, fun K hK => ?_⟩
         go_wp2_with (refine wpList_mk1 (.tmp 33) rfl m rfl rfl ?_)
         intro X2 wq1 hn
         have HQ3 : Hid _ := H0.out.nw hn
         clear hn H0
         (try go_wp2)
         refine ⟨rfl, hK _ _ (fun _ => HSS.out _ _ _ _ HQ3.out (by simp)) ?_⟩
         clear hK K
         refine MixJ.manyC [9, 13, 19] 4 (by kernel_rfl) (by decide) (by kernel_rfl) ?_
         intro i hi
         simp only [zMc, zMn, or_false] at hi
         rcases hi with rfl | rfl | rfl
         · refine ⟨_, rfl, fun K hK => ?_⟩
           go_wp2_with (first | (at_builtin; refine wpList_appMk rfl (.tmp 32) (.tmp 34) rfl HQ3.out rfl X2 1 rfl (by simp) (by decide) (by omega) ?_))
           intro va6 vc7 wq4 hn
           have HQ5 : Hid _ := hn
           clear hn HQ3
           (try go_wp2)
           refine ⟨rfl, hK _ _ (fun _ => HSS.out _ _ _ _ HQ5.out (by simp)) ?_⟩
           clear hK K
           refine MixJ.manyC [13, 19] 3 (by kernel_rfl) (by decide) (by kernel_rfl) ?_
           intro i hi
           simp only [zMc, zMn, or_false] at hi
           rcases hi with rfl | rfl
           · refine ⟨_, rfl, fun K hK => ?_⟩
             go_wp2_with (refine wpList_mk2 (.tmp 37) (.tmp 38) rfl m rfl rfl rfl ?_)
             intro X10 wq9 hn
             have HQ11 : Hid _ := HQ5.out.nw hn
             clear hn HQ5
             (try go_wp2)
             refine ⟨rfl, hK _ _ (fun _ => HSS.out _ _ _ _ HQ11.out (by simp)) ?_⟩
             clear hK K
             refine MixJ.manyC [14, 19] 2 (by kernel_rfl) (by decide) (by kernel_rfl) ?_
             intro i hi
             simp only [zMc, zMn, or_false] at hi
             rcases hi with rfl | rfl
             · refine ⟨_, rfl, fun K hK => ?_⟩
               go_wp2_with (first | (at_builtin; refine wpList_appMk rfl (.tmp 36) (.tmp 39) rfl HQ11.out rfl X10 2 rfl (by simp) (by decide) (by omega) ?_))
               intro va14 vc15 wq12 hn
               have HQ13 : Hid _ := hn
               clear hn HQ11
               (try go_wp2)
               refine ⟨rfl, hK _ _ (fun _ => HSS.out _ _ _ _ HQ13.out (by simp)) ?_⟩
               clear hK K
               refine MixJ.manyC [19] 1 (by kernel_rfl) (by decide) (by kernel_rfl) ?_
               intro i hi
               simp only [zMc, zMn, or_false] at hi
               subst hi
               refine ⟨_, rfl, fun K hK => ?_⟩
               go_wp2_with (refine wpList_mk3 (.tmp 42) (.tmp 43) (.tmp 44) rfl m rfl rfl rfl rfl ?_)
               intro X18 wq17 hn
               have HQ19 : Hid _ := HQ13.out.nw hn
               clear hn HQ13
               (try go_wp2)
               refine ⟨rfl, hK _ _ (fun _ => HSS.out _ _ _ _ HQ19.out (by simp)) ?_⟩
               clear hK K
               refine MixJ.manyC [20] 0 (by kernel_rfl) (by decide) (by kernel_rfl) ?_
               intro i hi
               simp only [zMc, zMn, or_false] at hi
               subst hi
               refine ⟨_, rfl, fun K hK => ?_⟩
               go_wp2_with (first | (at_builtin; refine wpList_appMk rfl (.tmp 41) (.tmp 45) rfl HQ19.out rfl X18 3 rfl (by simp) (by decide) (by omega) ?_))
               intro va22 vc23 wq20 hn
               have HQ21 : Hid _ := hn
               clear hn HQ19
               (try go_wp2)
               refine ⟨rfl, hK _ _ (fun _ => HSS.out _ _ _ _ HQ21.out (by simp)) ?_⟩
               clear hK K
               exact ⟨by kernel_rfl, [(34, .slice (some ⟨X2, 0, none⟩) 1 1), (35, .slice va6 (k + 1) vc7), (39, .slice (some ⟨X10, 0, none⟩) 2 2), (40, .slice va14 (k + 2) vc15), (45, .slice (some ⟨X18, 0, none⟩) 3 3), (46, .slice va22 (k + 3) vc23)], (by kernel_rfl), X2, X10, X18, va6, vc7, va14, vc15, va22, vc23, rfl, HQ21.out.weak (fun _ h => h) (fun q h => (by simp at h; subst h; simp))⟩
             · refine ⟨_, rfl, fun K hK => ?_⟩
               go_wp2_with (refine wpList_mk3 (.tmp 42) (.tmp 43) (.tmp 44) rfl m rfl rfl rfl rfl ?_)
               intro X26 wq25 hn
               have HQ27 : Hid _ := HQ11.out.nw hn
               clear hn HQ11
               (try go_wp2)
               refine ⟨rfl, hK _ _ (fun _ => HSS.out _ _ _ _ HQ27.out (by simp)) ?_⟩
               clear hK K
               refine MixJ.manyC [14] 1 (by kernel_rfl) (by decide) (by kernel_rfl) ?_
               intro i hi
               simp only [zMc, zMn, or_false] at hi
               subst hi
               refine ⟨_, rfl, fun K hK => ?_⟩
               go_wp2_with (first | (at_builtin; refine wpList_appMk rfl (.tmp 36) (.tmp 39) rfl HQ27.out rfl X10 2 rfl (by simp) (by decide) (by omega) ?_))
               intro va30 vc31 wq28 hn
               have HQ29 : Hid _ := hn
               clear hn HQ27
               (try go_wp2)
               refine ⟨rfl, hK _ _ (fun _ => HSS.out _ _ _ _ HQ29.out (by simp)) ?_⟩
               clear hK K
               refine MixJ.manyC [20] 0 (by kernel_rfl) (by decide) (by kernel_rfl) ?_
               intro i hi
               simp only [zMc, zMn, or_false] at hi
               subst hi
               refine ⟨_, rfl, fun K hK => ?_⟩
               go_wp2_with (first | (at_builtin; refine wpList_appMk rfl (.tmp 41) (.tmp 45) rfl HQ29.out rfl X26 3 rfl (by simp) (by decide) (by omega) ?_))
               intro va35 vc36 wq33 hn
               have HQ34 : Hid _ := hn
               clear hn HQ29
               (try go_wp2)
               refine ⟨rfl, hK _ _ (fun _ => HSS.out _ _ _ _ HQ34.out (by simp)) ?_⟩
               clear hK K
               exact ⟨by kernel_rfl, [(34, .slice (some ⟨X2, 0, none⟩) 1 1), (35, .slice va6 (k + 1) vc7), (39, .slice (some ⟨X10, 0, none⟩) 2 2), (40, .slice va30 (k + 2) vc31), (45, .slice (some ⟨X26, 0, none⟩) 3 3), (46, .slice va35 (k + 3) vc36)], (by kernel_rfl), X2, X10, X26, va6, vc7, va30, vc31, va35, vc36, rfl, HQ34.out.weak (fun _ h => h) (fun q h => (by simp at h; subst h; simp))⟩
           · refine ⟨_, rfl, fun K hK => ?_⟩
             go_wp2_with (refine wpList_mk3 (.tmp 42) (.tmp 43) (.tmp 44) rfl m rfl rfl rfl rfl ?_)
             intro X39 wq38 hn
             have HQ40 : Hid _ := HQ5.out.nw hn
             clear hn HQ5
             (try go_wp2)
             refine ⟨rfl, hK _ _ (fun _ => HSS.out _ _ _ _ HQ40.out (by simp)) ?_⟩
             clear hK K
             refine MixJ.manyC [13] 2 (by kernel_rfl) (by decide) (by kernel_rfl) ?_
             intro i hi
             simp only [zMc, zMn, or_false] at hi
             subst hi
             refine ⟨_, rfl, fun K hK => ?_⟩
             go_wp2_with (refine wpList_mk2 (.tmp 37) (.tmp 38) rfl m rfl rfl rfl ?_)
             intro X42 wq41 hn
             have HQ43 : Hid _ := HQ40.out.nw hn
             clear hn HQ40
             (try go_wp2)
             refine ⟨rfl, hK _ _ (fun _ => HSS.out _ _ _ _ HQ43.out (by simp)) ?_⟩
             clear hK K
             refine MixJ.manyC [14] 1 (by kernel_rfl) (by decide) (by kernel_rfl) ?_
             intro i hi
             simp only [zMc, zMn, or_false] at hi
             subst hi
             refine ⟨_, rfl, fun K hK => ?_⟩
             go_wp2_with (first | (at_builtin; refine wpList_appMk rfl (.tmp 36) (.tmp 39) rfl HQ43.out rfl X42 2 rfl (by simp) (by decide) (by omega) ?_))
             intro va46 vc47 wq44 hn
             have HQ45 : Hid _ := hn
             clear hn HQ43
             (try go_wp2)
             refine ⟨rfl, hK _ _ (fun _ => HSS.out _ _ _ _ HQ45.out (by simp)) ?_⟩
             clear hK K
             refine MixJ.manyC [20] 0 (by kernel_rfl) (by decide) (by kernel_rfl) ?_
             intro i hi
             simp only [zMc, zMn, or_false] at hi
             subst hi
             refine ⟨_, rfl, fun K hK => ?_⟩
             go_wp2_with (first | (at_builtin; refine wpList_appMk rfl (.tmp 41) (.tmp 45) rfl HQ45.out rfl X39 3 rfl (by simp) (by decide) (by omega) ?_))
             intro va51 vc52 wq49 hn
             have HQ50 : Hid _ := hn
             clear hn HQ45
             (try go_wp2)
             refine ⟨rfl, hK _ _ (fun _ => HSS.out _ _ _ _ HQ50.out (by simp)) ?_⟩
             clear hK K
             exact ⟨by kernel_rfl, [(34, .slice (some ⟨X2, 0, none⟩) 1 1), (35, .slice va6 (k + 1) vc7), (39, .slice (some ⟨X42, 0, none⟩) 2 2), (40, .slice va46 (k + 2) vc47), (45, .slice (some ⟨X39, 0, none⟩) 3 3), (46, .slice va51 (k + 3) vc52)], (by kernel_rfl), X2, X42, X39, va6, vc7, va46, vc47, va51, vc52, rfl, HQ50.out.weak (fun _ h => h) (fun q h => (by simp at h; subst h; simp))⟩
         · refine ⟨_, rfl, fun K hK => ?_⟩
           go_wp2_with (refine wpList_mk2 (.tmp 37) (.tmp 38) rfl m rfl rfl rfl ?_)
           intro X55 wq54 hn
           have HQ56 : Hid _ := HQ3.out.nw hn
           clear hn HQ3
           (try go_wp2)
           refine ⟨rfl, hK _ _ (fun _ => HSS.out _ _ _ _ HQ56.out (by simp)) ?_⟩
           clear hK K
           refine MixJ.manyC [9, 19] 3 (by kernel_rfl) (by decide) (by kernel_rfl) ?_
           intro i hi
           simp only [zMc, zMn, or_false] at hi
           rcases hi with rfl | rfl
           · refine ⟨_, rfl, fun K hK => ?_⟩
             go_wp2_with (first | (at_builtin; refine wpList_appMk rfl (.tmp 32) (.tmp 34) rfl HQ56.out rfl X2 1 rfl (by simp) (by decide) (by omega) ?_))
             intro va59 vc60 wq57 hn
             have HQ58 : Hid _ := hn
             clear hn HQ56
             (try go_wp2)
             refine ⟨rfl, hK _ _ (fun _ => HSS.out _ _ _ _ HQ58.out (by simp)) ?_⟩
             clear hK K
             refine MixJ.manyC [14, 19] 2 (by kernel_rfl) (by decide) (by kernel_rfl) ?_
             intro i hi
             simp only [zMc, zMn, or_false] at hi
             rcases hi with rfl | rfl
             · refine ⟨_, rfl, fun K hK => ?_⟩
               go_wp2_with (first | (at_builtin; refine wpList_appMk rfl (.tmp 36) (.tmp 39) rfl HQ58.out rfl X55 2 rfl (by simp) (by decide) (by omega) ?_))
               intro va64 vc65 wq62 hn
               have HQ63 : Hid _ := hn
               clear hn HQ58
               (try go_wp2)
               refine ⟨rfl, hK _ _ (fun _ => HSS.out _ _ _ _ HQ63.out (by simp)) ?_⟩
               clear hK K
               refine MixJ.manyC [19] 1 (by kernel_rfl) (by decide) (by kernel_rfl) ?_
               intro i hi
               simp only [zMc, zMn, or_false] at hi
               subst hi
               refine ⟨_, rfl, fun K hK => ?_⟩
               go_wp2_with (refine wpList_mk3 (.tmp 42) (.tmp 43) (.tmp 44) rfl m rfl rfl rfl rfl ?_)
               intro X68 wq67 hn
               have HQ69 : Hid _ := HQ63.out.nw hn
               clear hn HQ63
               (try go_wp2)
               refine ⟨rfl, hK _ _ (fun _ => HSS.out _ _ _ _ HQ69.out (by simp)) ?_⟩
               clear hK K
               refine MixJ.manyC [20] 0 (by kernel_rfl) (by decide) (by kernel_rfl) ?_
               intro i hi
               simp only [zMc, zMn, or_false] at hi
               subst hi
               refine ⟨_, rfl, fun K hK => ?_⟩
               go_wp2_with (first | (at_builtin; refine wpList_appMk rfl (.tmp 41) (.tmp 45) rfl HQ69.out rfl X68 3 rfl (by simp) (by decide) (by omega) ?_))
               intro va72 vc73 wq70 hn
               have HQ71 : Hid _ := hn
               clear hn HQ69
               (try go_wp2)
               refine ⟨rfl, hK _ _ (fun _ => HSS.out _ _ _ _ HQ71.out (by simp)) ?_⟩
               clear hK K
               exact ⟨by kernel_rfl, [(34, .slice (some ⟨X2, 0, none⟩) 1 1), (35, .slice va59 (k + 1) vc60), (39, .slice (some ⟨X55, 0, none⟩) 2 2), (40, .slice va64 (k + 2) vc65), (45, .slice (some ⟨X68, 0, none⟩) 3 3), (46, .slice va72 (k + 3) vc73)], (by kernel_rfl), X2, X55, X68, va59, vc60, va64, vc65, va72, vc73, rfl, HQ71.out.weak (fun _ h => h) (fun q h => (by simp at h; subst h; simp))⟩
             · refine ⟨_, rfl, fun K hK => ?_⟩
               go_wp2_with (refine wpList_mk3 (.tmp 42) (.tmp 43) (.tmp 44) rfl m rfl rfl rfl rfl ?_)
               intro X76 wq75 hn
               have HQ77 : Hid _ := HQ58.out.nw hn
               clear hn HQ58
               (try go_wp2)
               refine ⟨rfl, hK _ _ (fun _ => HSS.out _ _ _ _ HQ77.out (by simp)) ?_⟩
               clear hK K
               refine MixJ.manyC [14] 1 (by kernel_rfl) (by decide) (by kernel_rfl) ?_
               intro i hi
               simp only [zMc, zMn, or_false] at hi
               subst hi
               refine ⟨_, rfl, fun K hK => ?_⟩
               go_wp2_with (first | (at_builtin; refine wpList_appMk rfl (.tmp 36) (.tmp 39) rfl HQ77.out rfl X55 2 rfl (by simp) (by decide) (by omega) ?_))
               intro va80 vc81 wq78 hn
               have HQ79 : Hid _ := hn
               clear hn HQ77
               (try go_wp2)
               refine ⟨rfl, hK _ _ (fun _ => HSS.out _ _ _ _ HQ79.out (by simp)) ?_⟩
               clear hK K
               refine MixJ.manyC [20] 0 (by kernel_rfl) (by decide) (by kernel_rfl) ?_
               intro i hi
               simp only [zMc, zMn, or_false] at hi
               subst hi
               refine ⟨_, rfl, fun K hK => ?_⟩
               go_wp2_with (first | (at_builtin; refine wpList_appMk rfl (.tmp 41) (.tmp 45) rfl HQ79.out rfl X76 3 rfl (by simp) (by decide) (by omega) ?_))
               intro va85 vc86 wq83 hn
               have HQ84 : Hid _ := hn
               clear hn HQ79
               (try go_wp2)
               refine ⟨rfl, hK _ _ (fun _ => HSS.out _ _ _ _ HQ84.out (by simp)) ?_⟩
               clear hK K
               exact ⟨by kernel_rfl, [(34, .slice (some ⟨X2, 0, none⟩) 1 1), (35, .slice va59 (k + 1) vc60), (39, .slice (some ⟨X55, 0, none⟩) 2 2), (40, .slice va80 (k + 2) vc81), (45, .slice (some ⟨X76, 0, none⟩) 3 3), (46, .slice va85 (k + 3) vc86)], (by kernel_rfl), X2, X55, X76, va59, vc60, va80, vc81, va85, vc86, rfl, HQ84.out.weak (fun _ h => h) (fun q h => (by simp at h; subst h; simp))⟩
           · refine ⟨_, rfl, fun K hK => ?_⟩
             go_wp2_with (refine wpList_mk3 (.tmp 42) (.tmp 43) (.tmp 44) rfl m rfl rfl rfl rfl ?_)
             intro X89 wq88 hn
             have HQ90 : Hid _ := HQ56.out.nw hn
             clear hn HQ56
             (try go_wp2)
             refine ⟨rfl, hK _ _ (fun _ => HSS.out _ _ _ _ HQ90.out (by simp)) ?_⟩
             clear hK K
             refine MixJ.manyC [9] 2 (by kernel_rfl) (by decide) (by kernel_rfl) ?_
             intro i hi
             simp only [zMc, zMn, or_false] at hi
             subst hi
             refine ⟨_, rfl, fun K hK => ?_⟩
             go_wp2_with (first | (at_builtin; refine wpList_appMk rfl (.tmp 32) (.tmp 34) rfl HQ90.out rfl X2 1 rfl (by simp) (by decide) (by omega) ?_))
             intro va93 vc94 wq91 hn
             have HQ92 : Hid _ := hn
             clear hn HQ90
             (try go_wp2)
             refine ⟨rfl, hK _ _ (fun _ => HSS.out _ _ _ _ HQ92.out (by simp)) ?_⟩
             clear hK K
             refine MixJ.manyC [14] 1 (by kernel_rfl) (by decide) (by kernel_rfl) ?_
             intro i hi
             simp only [zMc, zMn, or_false] at hi
             subst hi
             refine ⟨_, rfl, fun K hK => ?_⟩
             go_wp2_with (first | (at_builtin; refine wpList_appMk rfl (.tmp 36) (.tmp 39) rfl HQ92.out rfl X55 2 rfl (by simp) (by decide) (by omega) ?_))
             intro va98 vc99 wq96 hn
             have HQ97 : Hid _ := hn
             clear hn HQ92
             (try go_wp2)
             refine ⟨rfl, hK _ _ (fun _ => HSS.out _ _ _ _ HQ97.out (by simp)) ?_⟩
             clear hK K
             refine MixJ.manyC [20] 0 (by kernel_rfl) (by decide) (by kernel_rfl) ?_
             intro i hi
             simp only [zMc, zMn, or_false] at hi
             subst hi
             refine ⟨_, rfl, fun K hK => ?_⟩
             go_wp2_with (first | (at_builtin; refine wpList_appMk rfl (.tmp 41) (.tmp 45) rfl HQ97.out rfl X89 3 rfl (by simp) (by decide) (by omega) ?_))
             intro va103 vc104 wq101 hn
             have HQ102 : Hid _ := hn
             clear hn HQ97
             (try go_wp2)
             refine ⟨rfl, hK _ _ (fun _ => HSS.out _ _ _ _ HQ102.out (by simp)) ?_⟩
             clear hK K
             exact ⟨by kernel_rfl, [(34, .slice (some ⟨X2, 0, none⟩) 1 1), (35, .slice va93 (k + 1) vc94), (39, .slice (some ⟨X55, 0, none⟩) 2 2), (40, .slice va98 (k + 2) vc99), (45, .slice (some ⟨X89, 0, none⟩) 3 3), (46, .slice va103 (k + 3) vc104)], (by kernel_rfl), X2, X55, X89, va93, vc94, va98, vc99, va103, vc104, rfl, HQ102.out.weak (fun _ h => h) (fun q h => (by simp at h; subst h; simp))⟩
         · refine ⟨_, rfl, fun K hK => ?_⟩
           go_wp2_with (refine wpList_mk3 (.tmp 42) (.tmp 43) (.tmp 44) rfl m rfl rfl rfl rfl ?_)
           intro X107 wq106 hn
           have HQ108 : Hid _ := HQ3.out.nw hn
           clear hn HQ3
           (try go_wp2)
           refine ⟨rfl, hK _ _ (fun _ => HSS.out _ _ _ _ HQ108.out (by simp)) ?_⟩
           clear hK K
           refine MixJ.manyC [9, 13] 3 (by kernel_rfl) (by decide) (by kernel_rfl) ?_
           intro i hi
           simp only [zMc, zMn, or_false] at hi
           rcases hi with rfl | rfl
           · refine ⟨_, rfl, fun K hK => ?_⟩
             go_wp2_with (first | (at_builtin; refine wpList_appMk rfl (.tmp 32) (.tmp 34) rfl HQ108.out rfl X2 1 rfl (by simp) (by decide) (by omega) ?_))
             intro va111 vc112 wq109 hn
             have HQ110 : Hid _ := hn
             clear hn HQ108
             (try go_wp2)
             refine ⟨rfl, hK _ _ (fun _ => HSS.out _ _ _ _ HQ110.out (by simp)) ?_⟩
             clear hK K
             refine MixJ.manyC [13] 2 (by kernel_rfl) (by decide) (by kernel_rfl) ?_
             intro i hi
             simp only [zMc, zMn, or_false] at hi
             subst hi
             refine ⟨_, rfl, fun K hK => ?_⟩
             go_wp2_with (refine wpList_mk2 (.tmp 37) (.tmp 38) rfl m rfl rfl rfl ?_)
             intro X115 wq114 hn
             have HQ116 : Hid _ := HQ110.out.nw hn
             clear hn HQ110
             (try go_wp2)
             refine ⟨rfl, hK _ _ (fun _ => HSS.out _ _ _ _ HQ116.out (by simp)) ?_⟩
             clear hK K
             refine MixJ.manyC [14] 1 (by kernel_rfl) (by decide) (by kernel_rfl) ?_
             intro i hi
             simp only [zMc, zMn, or_false] at hi
             subst hi
             refine ⟨_, rfl, fun K hK => ?_⟩
             go_wp2_with (first | (at_builtin; refine wpList_appMk rfl (.tmp 36) (.tmp 39) rfl HQ116.out rfl X115 2 rfl (by simp) (by decide) (by omega) ?_))
             intro va119 vc120 wq117 hn
             have HQ118 : Hid _ := hn
             clear hn HQ116
             (try go_wp2)
             refine ⟨rfl, hK _ _ (fun _ => HSS.out _ _ _ _ HQ118.out (by simp)) ?_⟩
             clear hK K
             refine MixJ.manyC [20] 0 (by kernel_rfl) (by decide) (by kernel_rfl) ?_
             intro i hi
             simp only [zMc, zMn, or_false] at hi
             subst hi
             refine ⟨_, rfl, fun K hK => ?_⟩
             go_wp2_with (first | (at_builtin; refine wpList_appMk rfl (.tmp 41) (.tmp 45) rfl HQ118.out rfl X107 3 rfl (by simp) (by decide) (by omega) ?_))
             intro va124 vc125 wq122 hn
             have HQ123 : Hid _ := hn
             clear hn HQ118
             (try go_wp2)
             refine ⟨rfl, hK _ _ (fun _ => HSS.out _ _ _ _ HQ123.out (by simp)) ?_⟩
             clear hK K
             exact ⟨by kernel_rfl, [(34, .slice (some ⟨X2, 0, none⟩) 1 1), (35, .slice va111 (k + 1) vc112), (39, .slice (some ⟨X115, 0, none⟩) 2 2), (40, .slice va119 (k + 2) vc120), (45, .slice (some ⟨X107, 0, none⟩) 3 3), (46, .slice va124 (k + 3) vc125)], (by kernel_rfl), X2, X115, X107, va111, vc112, va119, vc120, va124, vc125, rfl, HQ123.out.weak (fun _ h => h) (fun q h => (by simp at h; subst h; simp))⟩
           · refine ⟨_, rfl, fun K hK => ?_⟩
             go_wp2_with (refine wpList_mk2 (.tmp 37) (.tmp 38) rfl m rfl rfl rfl ?_)
             intro X128 wq127 hn
             have HQ129 : Hid _ := HQ108.out.nw hn
             clear hn HQ108
             (try go_wp2)
             refine ⟨rfl, hK _ _ (fun _ => HSS.out _ _ _ _ HQ129.out (by simp)) ?_⟩
             clear hK K
             refine MixJ.manyC [9] 2 (by kernel_rfl) (by decide) (by kernel_rfl) ?_
             intro i hi
             simp only [zMc, zMn, or_false] at hi
             subst hi
             refine ⟨_, rfl, fun K hK => ?_⟩
             go_wp2_with (first | (at_builtin; refine wpList_appMk rfl (.tmp 32) (.tmp 34) rfl HQ129.out rfl X2 1 rfl (by simp) (by decide) (by omega) ?_))
             intro va132 vc133 wq130 hn
             have HQ131 : Hid _ := hn
             clear hn HQ129
             (try go_wp2)
             refine ⟨rfl, hK _ _ (fun _ => HSS.out _ _ _ _ HQ131.out (by simp)) ?_⟩
             clear hK K
             refine MixJ.manyC [14] 1 (by kernel_rfl) (by decide) (by kernel_rfl) ?_
             intro i hi
             simp only [zMc, zMn, or_false] at hi
             subst hi
             refine ⟨_, rfl, fun K hK => ?_⟩
             go_wp2_with (first | (at_builtin; refine wpList_appMk rfl (.tmp 36) (.tmp 39) rfl HQ131.out rfl X128 2 rfl (by simp) (by decide) (by omega) ?_))
             intro va137 vc138 wq135 hn
             have HQ136 : Hid _ := hn
             clear hn HQ131
             (try go_wp2)
             refine ⟨rfl, hK _ _ (fun _ => HSS.out _ _ _ _ HQ136.out (by simp)) ?_⟩
             clear hK K
             refine MixJ.manyC [20] 0 (by kernel_rfl) (by decide) (by kernel_rfl) ?_
             intro i hi
             simp only [zMc, zMn, or_false] at hi
             subst hi
             refine ⟨_, rfl, fun K hK => ?_⟩
             go_wp2_with (first | (at_builtin; refine wpList_appMk rfl (.tmp 41) (.tmp 45) rfl HQ136.out rfl X107 3 rfl (by simp) (by decide) (by omega) ?_))
             intro va142 vc143 wq140 hn
             have HQ141 : Hid _ := hn
             clear hn HQ136
             (try go_wp2)
             refine ⟨rfl, hK _ _ (fun _ => HSS.out _ _ _ _ HQ141.out (by simp)) ?_⟩
             clear hK K
             exact ⟨by kernel_rfl, [(34, .slice (some ⟨X2, 0, none⟩) 1 1), (35, .slice va132 (k + 1) vc133), (39, .slice (some ⟨X128, 0, none⟩) 2 2), (40, .slice va137 (k + 2) vc138), (45, .slice (some ⟨X107, 0, none⟩) 3 3), (46, .slice va142 (k + 3) vc143)], (by kernel_rfl), X2, X128, X107, va132, vc133, va137, vc138, va142, vc143, rfl, HQ141.out.weak (fun _ h => h) (fun q h => (by simp at h; subst h; simp))⟩
       · refine ⟨_, rfl, fun K hK => ?_⟩
         go_wp2_with (refine wpList_mk2 (.tmp 37) (.tmp 38) rfl m rfl rfl rfl ?_)
         intro X146 wq145 hn
         have HQ147 : Hid _ := H0.out.nw hn
         clear hn H0
         (try go_wp2)
         refine ⟨rfl, hK _ _ (fun _ => HSS.out _ _ _ _ HQ147.out (by simp)) ?_⟩
         clear hK K
         refine MixJ.manyC [8, 19] 4 (by kernel_rfl) (by decide) (by kernel_rfl) ?_
         intro i hi
         simp only [zMc, zMn, or_false] at hi
         rcases hi with rfl | rfl
         · refine ⟨_, rfl, fun K hK => ?_⟩
           go_wp2_with (refine wpList_mk1 (.tmp 33) rfl m rfl rfl ?_)
           intro X149 wq148 hn
           have HQ150 : Hid _ := HQ147.out.nw hn
           clear hn HQ147
           (try go_wp2)
           refine ⟨rfl, hK _ _ (fun _ => HSS.out _ _ _ _ HQ150.out (by simp)) ?_⟩
           clear hK K
           refine MixJ.manyC [9, 19] 3 (by kernel_rfl) (by decide) (by kernel_rfl) ?_
           intro i hi
           simp only [zMc, zMn, or_false] at hi
           rcases hi with rfl | rfl
           · refine ⟨_, rfl, fun K hK => ?_⟩
             go_wp2_with (first | (at_builtin; refine wpList_appMk rfl (.tmp 32) (.tmp 34) rfl HQ150.out rfl X149 1 rfl (by simp) (by decide) (by omega) ?_))
             intro va153 vc154 wq151 hn
             have HQ152 : Hid _ := hn
             clear hn HQ150
             (try go_wp2)
             refine ⟨rfl, hK _ _ (fun _ => HSS.out _ _ _ _ HQ152.out (by simp)) ?_⟩
             clear hK K
             refine MixJ.manyC [14, 19] 2 (by kernel_rfl) (by decide) (by kernel_rfl) ?_
             intro i hi
             simp only [zMc, zMn, or_false] at hi
             rcases hi with rfl | rfl
             · refine ⟨_, rfl, fun K hK => ?_⟩
               go_wp2_with (first | (at_builtin; refine wpList_appMk rfl (.tmp 36) (.tmp 39) rfl HQ152.out rfl X146 2 rfl (by simp) (by decide) (by omega) ?_))
               intro va158 vc159 wq156 hn
               have HQ157 : Hid _ := hn
               clear hn HQ152
               (try go_wp2)
               refine ⟨rfl, hK _ _ (fun _ => HSS.out _ _ _ _ HQ157.out (by simp)) ?_⟩
               clear hK K
               refine MixJ.manyC [19] 1 (by kernel_rfl) (by decide) (by kernel_rfl) ?_
               intro i hi
               simp only [zMc, zMn, or_false] at hi
               subst hi
               refine ⟨_, rfl, fun K hK => ?_⟩
               go_wp2_with (refine wpList_mk3 (.tmp 42) (.tmp 43) (.tmp 44) rfl m rfl rfl rfl rfl ?_)
               intro X162 wq161 hn
               have HQ163 : Hid _ := HQ157.out.nw hn
               clear hn HQ157
               (try go_wp2)
               refine ⟨rfl, hK _ _ (fun _ => HSS.out _ _ _ _ HQ163.out (by simp)) ?_⟩
               clear hK K
               refine MixJ.manyC [20] 0 (by kernel_rfl) (by decide) (by kernel_rfl) ?_
               intro i hi
               simp only [zMc, zMn, or_false] at hi
               subst hi
               refine ⟨_, rfl, fun K hK => ?_⟩
               go_wp2_with (first | (at_builtin; refine wpList_appMk rfl (.tmp 41) (.tmp 45) rfl HQ163.out rfl X162 3 rfl (by simp) (by decide) (by omega) ?_))
               intro va166 vc167 wq164 hn
               have HQ165 : Hid _ := hn
               clear hn HQ163
               (try go_wp2)
               refine ⟨rfl, hK _ _ (fun _ => HSS.out _ _ _ _ HQ165.out (by simp)) ?_⟩
               clear hK K
               exact ⟨by kernel_rfl, [(34, .slice (some ⟨X149, 0, none⟩) 1 1), (35, .slice va153 (k + 1) vc154), (39, .slice (some ⟨X146, 0, none⟩) 2 2), (40, .slice va158 (k + 2) vc159), (45, .slice (some ⟨X162, 0, none⟩) 3 3), (46, .slice va166 (k + 3) vc167)], (by kernel_rfl), X149, X146, X162, va153, vc154, va158, vc159, va166, vc167, rfl, HQ165.out.weak (fun _ h => h) (fun q h => (by simp at h; subst h; simp))⟩
             · refine ⟨_, rfl, fun K hK => ?_⟩
               go_wp2_with (refine wpList_mk3 (.tmp 42) (.tmp 43) (.tmp 44) rfl m rfl rfl rfl rfl ?_)
               intro X170 wq169 hn
               have HQ171 : Hid _ := HQ152.out.nw hn
               clear hn HQ152
               (try go_wp2)
               refine ⟨rfl, hK _ _ (fun _ => HSS.out _ _ _ _ HQ171.out (by simp)) ?_⟩
               clear hK K
               refine MixJ.manyC [14] 1 (by kernel_rfl) (by decide) (by kernel_rfl) ?_
               intro i hi
               simp only [zMc, zMn, or_false] at hi
               subst hi
               refine ⟨_, rfl, fun K hK => ?_⟩
               go_wp2_with (first | (at_builtin; refine wpList_appMk rfl (.tmp 36) (.tmp 39) rfl HQ171.out rfl X146 2 rfl (by simp) (by decide) (by omega) ?_))
               intro va174 vc175 wq172 hn
               have HQ173 : Hid _ := hn
               clear hn HQ171
               (try go_wp2)
               refine ⟨rfl, hK _ _ (fun _ => HSS.out _ _ _ _ HQ173.out (by simp)) ?_⟩
               clear hK K
               refine MixJ.manyC [20] 0 (by kernel_rfl) (by decide) (by kernel_rfl) ?_
               intro i hi
               simp only [zMc, zMn, or_false] at hi
               subst hi
               refine ⟨_, rfl, fun K hK => ?_⟩
               go_wp2_with (first | (at_builtin; refine wpList_appMk rfl (.tmp 41) (.tmp 45) rfl HQ173.out rfl X170 3 rfl (by simp) (by decide) (by omega) ?_))
               intro va179 vc180 wq177 hn
               have HQ178 : Hid _ := hn
               clear hn HQ173
               (try go_wp2)
               refine ⟨rfl, hK _ _ (fun _ => HSS.out _ _ _ _ HQ178.out (by simp)) ?_⟩
               clear hK K
               exact ⟨by kernel_rfl, [(34, .slice (some ⟨X149, 0, none⟩) 1 1), (35, .slice va153 (k + 1) vc154), (39, .slice (some ⟨X146, 0, none⟩) 2 2), (40, .slice va174 (k + 2) vc175), (45, .slice (some ⟨X170, 0, none⟩) 3 3), (46, .slice va179 (k + 3) vc180)], (by kernel_rfl), X149, X146, X170, va153, vc154, va174, vc175, va179, vc180, rfl, HQ178.out.weak (fun _ h => h) (fun q h => (by simp at h; subst h; simp))⟩
           · refine ⟨_, rfl, fun K hK => ?_⟩
             go_wp2_with (refine wpList_mk3 (.tmp 42) (.tmp 43) (.tmp 44) rfl m rfl rfl rfl rfl ?_)
             intro X183 wq182 hn
             have HQ184 : Hid _ := HQ150.out.nw hn
             clear hn HQ150
             (try go_wp2)
             refine ⟨rfl, hK _ _ (fun _ => HSS.out _ _ _ _ HQ184.out (by simp)) ?_⟩
             clear hK K
             refine MixJ.manyC [9] 2 (by kernel_rfl) (by decide) (by kernel_rfl) ?_
             intro i hi
             simp only [zMc, zMn, or_false] at hi
             subst hi
             refine ⟨_, rfl, fun K hK => ?_⟩
             go_wp2_with (first | (at_builtin; refine wpList_appMk rfl (.tmp 32) (.tmp 34) rfl HQ184.out rfl X149 1 rfl (by simp) (by decide) (by omega) ?_))
             intro va187 vc188 wq185 hn
             have HQ186 : Hid _ := hn
             clear hn HQ184
             (try go_wp2)
             refine ⟨rfl, hK _ _ (fun _ => HSS.out _ _ _ _ HQ186.out (by simp)) ?_⟩
             clear hK K
             refine MixJ.manyC [14] 1 (by kernel_rfl) (by decide) (by kernel_rfl) ?_
             intro i hi
             simp only [zMc, zMn, or_false] at hi
             subst hi
             refine ⟨_, rfl, fun K hK => ?_⟩
             go_wp2_with (first | (at_builtin; refine wpList_appMk rfl (.tmp 36) (.tmp 39) rfl HQ186.out rfl X146 2 rfl (by simp) (by decide) (by omega) ?_))
             intro va192 vc193 wq190 hn
             have HQ191 : Hid _ := hn
             clear hn HQ186
             (try go_wp2)
             refine ⟨rfl, hK _ _ (fun _ => HSS.out _ _ _ _ HQ191.out (by simp)) ?_⟩
             clear hK K
             refine MixJ.manyC [20] 0 (by kernel_rfl) (by decide) (by kernel_rfl) ?_
             intro i hi
             simp only [zMc, zMn, or_false] at hi
             subst hi
             refine ⟨_, rfl, fun K hK => ?_⟩
             go_wp2_with (first | (at_builtin; refine wpList_appMk rfl (.tmp 41) (.tmp 45) rfl HQ191.out rfl X183 3 rfl (by simp) (by decide) (by omega) ?_))
             intro va197 vc198 wq195 hn
             have HQ196 : Hid _ := hn
             clear hn HQ191
             (try go_wp2)
             refine ⟨rfl, hK _ _ (fun _ => HSS.out _ _ _ _ HQ196.out (by simp)) ?_⟩
             clear hK K
             exact ⟨by kernel_rfl, [(34, .slice (some ⟨X149, 0, none⟩) 1 1), (35, .slice va187 (k + 1) vc188), (39, .slice (some ⟨X146, 0, none⟩) 2 2), (40, .slice va192 (k + 2) vc193), (45, .slice (some ⟨X183, 0, none⟩) 3 3), (46, .slice va197 (k + 3) vc198)], (by kernel_rfl), X149, X146, X183, va187, vc188, va192, vc193, va197, vc198, rfl, HQ196.out.weak (fun _ h => h) (fun q h => (by simp at h; subst h; simp))⟩
         · refine ⟨_, rfl, fun K hK => ?_⟩
           go_wp2_with (refine wpList_mk3 (.tmp 42) (.tmp 43) (.tmp 44) rfl m rfl rfl rfl rfl ?_)
           intro X201 wq200 hn
           have HQ202 : Hid _ := HQ147.out.nw hn
           clear hn HQ147
           (try go_wp2)
           refine ⟨rfl, hK _ _ (fun _ => HSS.out _ _ _ _ HQ202.out (by simp)) ?_⟩
           clear hK K
           refine MixJ.manyC [8] 3 (by kernel_rfl) (by decide) (by kernel_rfl) ?_
           intro i hi
           simp only [zMc, zMn, or_false] at hi
           subst hi
           refine ⟨_, rfl, fun K hK => ?_⟩
           go_wp2_with (refine wpList_mk1 (.tmp 33) rfl m rfl rfl ?_)
           intro X204 wq203 hn
           have HQ205 : Hid _ := HQ202.out.nw hn
           clear hn HQ202
           (try go_wp2)
           refine ⟨rfl, hK _ _ (fun _ => HSS.out _ _ _ _ HQ205.out (by simp)) ?_⟩
           clear hK K
           refine MixJ.manyC [9] 2 (by kernel_rfl) (by decide) (by kernel_rfl) ?_
           intro i hi
           simp only [zMc, zMn, or_false] at hi
           subst hi
           refine ⟨_, rfl, fun K hK => ?_⟩
           go_wp2_with (first | (at_builtin; refine wpList_appMk rfl (.tmp 32) (.tmp 34) rfl HQ205.out rfl X204 1 rfl (by simp) (by decide) (by omega) ?_))
           intro va208 vc209 wq206 hn
           have HQ207 : Hid _ := hn
           clear hn HQ205
           (try go_wp2)
           refine ⟨rfl, hK _ _ (fun _ => HSS.out _ _ _ _ HQ207.out (by simp)) ?_⟩
           clear hK K
           refine MixJ.manyC [14] 1 (by kernel_rfl) (by decide) (by kernel_rfl) ?_
           intro i hi
           simp only [zMc, zMn, or_false] at hi
           subst hi
           refine ⟨_, rfl, fun K hK => ?_⟩
           go_wp2_with (first | (at_builtin; refine wpList_appMk rfl (.tmp 36) (.tmp 39) rfl HQ207.out rfl X146 2 rfl (by simp) (by decide) (by omega) ?_))
           intro va213 vc214 wq211 hn
           have HQ212 : Hid _ := hn
           clear hn HQ207
           (try go_wp2)
           refine ⟨rfl, hK _ _ (fun _ => HSS.out _ _ _ _ HQ212.out (by simp)) ?_⟩
           clear hK K
           refine MixJ.manyC [20] 0 (by kernel_rfl) (by decide) (by kernel_rfl) ?_
           intro i hi
           simp only [zMc, zMn, or_false] at hi
           subst hi
           refine ⟨_, rfl, fun K hK => ?_⟩
           go_wp2_with (first | (at_builtin; refine wpList_appMk rfl (.tmp 41) (.tmp 45) rfl HQ212.out rfl X201 3 rfl (by simp) (by decide) (by omega) ?_))
           intro va218 vc219 wq216 hn
           have HQ217 : Hid _ := hn
           clear hn HQ212
           (try go_wp2)
           refine ⟨rfl, hK _ _ (fun _ => HSS.out _ _ _ _ HQ217.out (by simp)) ?_⟩
           clear hK K
           exact ⟨by kernel_rfl, [(34, .slice (some ⟨X204, 0, none⟩) 1 1), (35, .slice va208 (k + 1) vc209), (39, .slice (some ⟨X146, 0, none⟩) 2 2), (40, .slice va213 (k + 2) vc214), (45, .slice (some ⟨X201, 0, none⟩) 3 3), (46, .slice va218 (k + 3) vc219)], (by kernel_rfl), X204, X146, X201, va208, vc209, va213, vc214, va218, vc219, rfl, HQ217.out.weak (fun _ h => h) (fun q h => (by simp at h; subst h; simp))⟩
       · refine ⟨_, rfl, fun K hK => ?_⟩
         go_wp2_with (refine wpList_mk3 (.tmp 42) (.tmp 43) (.tmp 44) rfl m rfl rfl rfl rfl ?_)
         intro X222 wq221 hn
         have HQ223 : Hid _ := H0.out.nw hn
         clear hn H0
         (try go_wp2)
         refine ⟨rfl, hK _ _ (fun _ => HSS.out _ _ _ _ HQ223.out (by simp)) ?_⟩
         clear hK K
         refine MixJ.manyC [8, 13] 4 (by kernel_rfl) (by decide) (by kernel_rfl) ?_
         intro i hi
         simp only [zMc, zMn, or_false] at hi
         rcases hi with rfl | rfl
         · refine ⟨_, rfl, fun K hK => ?_⟩
           go_wp2_with (refine wpList_mk1 (.tmp 33) rfl m rfl rfl ?_)
           intro X225 wq224 hn
           have HQ226 : Hid _ := HQ223.out.nw hn
           clear hn HQ223
           (try go_wp2)
           refine ⟨rfl, hK _ _ (fun _ => HSS.out _ _ _ _ HQ226.out (by simp)) ?_⟩
           clear hK K
           refine MixJ.manyC [9, 13] 3 (by kernel_rfl) (by decide) (by kernel_rfl) ?_
           intro i hi
           simp only [zMc, zMn, or_false] at hi
           rcases hi with rfl | rfl
           · refine ⟨_, rfl, fun K hK => ?_⟩
             go_wp2_with (first | (at_builtin; refine wpList_appMk rfl (.tmp 32) (.tmp 34) rfl HQ226.out rfl X225 1 rfl (by simp) (by decide) (by omega) ?_))
             intro va229 vc230 wq227 hn
             have HQ228 : Hid _ := hn
             clear hn HQ226
             (try go_wp2)
             refine ⟨rfl, hK _ _ (fun _ => HSS.out _ _ _ _ HQ228.out (by simp)) ?_⟩
             clear hK K
             refine MixJ.manyC [13] 2 (by kernel_rfl) (by decide) (by kernel_rfl) ?_
             intro i hi
             simp only [zMc, zMn, or_false] at hi
             subst hi
             refine ⟨_, rfl, fun K hK => ?_⟩
             go_wp2_with (refine wpList_mk2 (.tmp 37) (.tmp 38) rfl m rfl rfl rfl ?_)
             intro X233 wq232 hn
             have HQ234 : Hid _ := HQ228.out.nw hn
             clear hn HQ228
             (try go_wp2)
             refine ⟨rfl, hK _ _ (fun _ => HSS.out _ _ _ _ HQ234.out (by simp)) ?_⟩
             clear hK K
             refine MixJ.manyC [14] 1 (by kernel_rfl) (by decide) (by kernel_rfl) ?_
             intro i hi
             simp only [zMc, zMn, or_false] at hi
             subst hi
             refine ⟨_, rfl, fun K hK => ?_⟩
             go_wp2_with (first | (at_builtin; refine wpList_appMk rfl (.tmp 36) (.tmp 39) rfl HQ234.out rfl X233 2 rfl (by simp) (by decide) (by omega) ?_))
             intro va237 vc238 wq235 hn
             have HQ236 : Hid _ := hn
             clear hn HQ234
             (try go_wp2)
             refine ⟨rfl, hK _ _ (fun _ => HSS.out _ _ _ _ HQ236.out (by simp)) ?_⟩
             clear hK K
             refine MixJ.manyC [20] 0 (by kernel_rfl) (by decide) (by kernel_rfl) ?_
             intro i hi
             simp only [zMc, zMn, or_false] at hi
             subst hi
             refine ⟨_, rfl, fun K hK => ?_⟩
             go_wp2_with (first | (at_builtin; refine wpList_appMk rfl (.tmp 41) (.tmp 45) rfl HQ236.out rfl X222 3 rfl (by simp) (by decide) (by omega) ?_))
             intro va242 vc243 wq240 hn
             have HQ241 : Hid _ := hn
             clear hn HQ236
             (try go_wp2)
             refine ⟨rfl, hK _ _ (fun _ => HSS.out _ _ _ _ HQ241.out (by simp)) ?_⟩
             clear hK K
             exact ⟨by kernel_rfl, [(34, .slice (some ⟨X225, 0, none⟩) 1 1), (35, .slice va229 (k + 1) vc230), (39, .slice (some ⟨X233, 0, none⟩) 2 2), (40, .slice va237 (k + 2) vc238), (45, .slice (some ⟨X222, 0, none⟩) 3 3), (46, .slice va242 (k + 3) vc243)], (by kernel_rfl), X225, X233, X222, va229, vc230, va237, vc238, va242, vc243, rfl, HQ241.out.weak (fun _ h => h) (fun q h => (by simp at h; subst h; simp))⟩
           · refine ⟨_, rfl, fun K hK => ?_⟩
             go_wp2_with (refine wpList_mk2 (.tmp 37) (.tmp 38) rfl m rfl rfl rfl ?_)
             intro X246 wq245 hn
             have HQ247 : Hid _ := HQ226.out.nw hn
             clear hn HQ226
             (try go_wp2)
             refine ⟨rfl, hK _ _ (fun _ => HSS.out _ _ _ _ HQ247.out (by simp)) ?_⟩
             clear hK K
             refine MixJ.manyC [9] 2 (by kernel_rfl) (by decide) (by kernel_rfl) ?_
             intro i hi
             simp only [zMc, zMn, or_false] at hi
             subst hi
             refine ⟨_, rfl, fun K hK => ?_⟩
             go_wp2_with (first | (at_builtin; refine wpList_appMk rfl (.tmp 32) (.tmp 34) rfl HQ247.out rfl X225 1 rfl (by simp) (by decide) (by omega) ?_))
             intro va250 vc251 wq248 hn
             have HQ249 : Hid _ := hn
             clear hn HQ247
             (try go_wp2)
             refine ⟨rfl, hK _ _ (fun _ => HSS.out _ _ _ _ HQ249.out (by simp)) ?_⟩
             clear hK K
             refine MixJ.manyC [14] 1 (by kernel_rfl) (by decide) (by kernel_rfl) ?_
             intro i hi
             simp only [zMc, zMn, or_false] at hi
             subst hi
             refine ⟨_, rfl, fun K hK => ?_⟩
             go_wp2_with (first | (at_builtin; refine wpList_appMk rfl (.tmp 36) (.tmp 39) rfl HQ249.out rfl X246 2 rfl (by simp) (by decide) (by omega) ?_))
             intro va255 vc256 wq253 hn
             have HQ254 : Hid _ := hn
             clear hn HQ249
             (try go_wp2)
             refine ⟨rfl, hK _ _ (fun _ => HSS.out _ _ _ _ HQ254.out (by simp)) ?_⟩
             clear hK K
             refine MixJ.manyC [20] 0 (by kernel_rfl) (by decide) (by kernel_rfl) ?_
             intro i hi
             simp only [zMc, zMn, or_false] at hi
             subst hi
             refine ⟨_, rfl, fun K hK => ?_⟩
             go_wp2_with (first | (at_builtin; refine wpList_appMk rfl (.tmp 41) (.tmp 45) rfl HQ254.out rfl X222 3 rfl (by simp) (by decide) (by omega) ?_))
             intro va260 vc261 wq258 hn
             have HQ259 : Hid _ := hn
             clear hn HQ254
             (try go_wp2)
             refine ⟨rfl, hK _ _ (fun _ => HSS.out _ _ _ _ HQ259.out (by simp)) ?_⟩
             clear hK K
             exact ⟨by kernel_rfl, [(34, .slice (some ⟨X225, 0, none⟩) 1 1), (35, .slice va250 (k + 1) vc251), (39, .slice (some ⟨X246, 0, none⟩) 2 2), (40, .slice va255 (k + 2) vc256), (45, .slice (some ⟨X222, 0, none⟩) 3 3), (46, .slice va260 (k + 3) vc261)], (by kernel_rfl), X225, X246, X222, va250, vc251, va255, vc256, va260, vc261, rfl, HQ259.out.weak (fun _ h => h) (fun q h => (by simp at h; subst h; simp))⟩
         · refine ⟨_, rfl, fun K hK => ?_⟩
           go_wp2_with (refine wpList_mk2 (.tmp 37) (.tmp 38) rfl m rfl rfl rfl ?_)
           intro X264 wq263 hn
           have HQ265 : Hid _ := HQ223.out.nw hn
           clear hn HQ223
           (try go_wp2)
           refine ⟨rfl, hK _ _ (fun _ => HSS.out _ _ _ _ HQ265.out (by simp)) ?_⟩
           clear hK K
           refine MixJ.manyC [8] 3 (by kernel_rfl) (by decide) (by kernel_rfl) ?_
           intro i hi
           simp only [zMc, zMn, or_false] at hi
           subst hi
           refine ⟨_, rfl, fun K hK => ?_⟩
           go_wp2_with (refine wpList_mk1 (.tmp 33) rfl m rfl rfl ?_)
           intro X267 wq266 hn
           have HQ268 : Hid _ := HQ265.out.nw hn
           clear hn HQ265
           (try go_wp2)
           refine ⟨rfl, hK _ _ (fun _ => HSS.out _ _ _ _ HQ268.out (by simp)) ?_⟩
           clear hK K
           refine MixJ.manyC [9] 2 (by kernel_rfl) (by decide) (by kernel_rfl) ?_
           intro i hi
           simp only [zMc, zMn, or_false] at hi
           subst hi
           refine ⟨_, rfl, fun K hK => ?_⟩
           go_wp2_with (first | (at_builtin; refine wpList_appMk rfl (.tmp 32) (.tmp 34) rfl HQ268.out rfl X267 1 rfl (by simp) (by decide) (by omega) ?_))
           intro va271 vc272 wq269 hn
           have HQ270 : Hid _ := hn
           clear hn HQ268
           (try go_wp2)
           refine ⟨rfl, hK _ _ (fun _ => HSS.out _ _ _ _ HQ270.out (by simp)) ?_⟩
           clear hK K
           refine MixJ.manyC [14] 1 (by kernel_rfl) (by decide) (by kernel_rfl) ?_
           intro i hi
           simp only [zMc, zMn, or_false] at hi
           subst hi
           refine ⟨_, rfl, fun K hK => ?_⟩
           go_wp2_with (first | (at_builtin; refine wpList_appMk rfl (.tmp 36) (.tmp 39) rfl HQ270.out rfl X264 2 rfl (by simp) (by decide) (by omega) ?_))
           intro va276 vc277 wq274 hn
           have HQ275 : Hid _ := hn
           clear hn HQ270
           (try go_wp2)
           refine ⟨rfl, hK _ _ (fun _ => HSS.out _ _ _ _ HQ275.out (by simp)) ?_⟩
           clear hK K
           refine MixJ.manyC [20] 0 (by kernel_rfl) (by decide) (by kernel_rfl) ?_
           intro i hi
           simp only [zMc, zMn, or_false] at hi
           subst hi
           refine ⟨_, rfl, fun K hK => ?_⟩
           go_wp2_with (first | (at_builtin; refine wpList_appMk rfl (.tmp 41) (.tmp 45) rfl HQ275.out rfl X222 3 rfl (by simp) (by decide) (by omega) ?_))
           intro va281 vc282 wq279 hn
           have HQ280 : Hid _ := hn
           clear hn HQ275
           (try go_wp2)
           refine ⟨rfl, hK _ _ (fun _ => HSS.out _ _ _ _ HQ280.out (by simp)) ?_⟩
           clear hK K
           exact ⟨by kernel_rfl, [(34, .slice (some ⟨X267, 0, none⟩) 1 1), (35, .slice va271 (k + 1) vc272), (39, .slice (some ⟨X264, 0, none⟩) 2 2), (40, .slice va276 (k + 2) vc277), (45, .slice (some ⟨X222, 0, none⟩) 3 3), (46, .slice va281 (k + 3) vc282)], (by kernel_rfl), X267, X264, X222, va271, vc272, va276, vc277, va281, vc282, rfl, HQ280.out.weak (fun _ h => h) (fun q h => (by simp at h; subst h; simp))⟩
      case tail =>
       clear H0
       intro vs wt hvs
       obtain ⟨X8, X13, X19, a1, c1, a2, c2, a3, c3, rfl, HBY⟩ := hvs
       have HB0 : Hid (ByS w BK b 72 (mkF m) (.slice la k lc) k 3 [(.slice a1 (k + 1) c1, k + 1), (.slice a2 (k + 2) c2, k + 2), (.slice a3 (k + 3) c3, k + 3)] [(P5, 1)] wt) := HBY
       clear HBY
       simp only [MixJ.sets, List.foldl_cons, List.foldl_nil, List.setIfInBounds_toArray, List.set_cons_succ, List.set_cons_zero]
       refine MixJ.many [21] 4 (by kernel_rfl) (by decide) (by kernel_rfl) ?_
       intro i hi
       simp only [zMc, zMn, or_false] at hi
       subst hi
       refine ⟨_, rfl, fun K hK => ?_⟩
       go_wp2
       have hN4 := fourW wt (.slice la k lc) (.slice a1 (k + 1) c1) (.slice a2 (k + 2) c2) (.slice a3 (k + 3) c3) 34
       obtain ⟨wq284, hwq284⟩ : ∃ x, x = wt.alloc (.cells #[.slice la k lc, .slice a1 (k + 1) c1, .slice a2 (k + 2) c2, .slice a3 (k + 3) c3] 34) := ⟨_, rfl⟩
       obtain ⟨X285, hX285⟩ : ∃ x, x = wt.heap.size := ⟨_, rfl⟩
       have HQ286 : Hid (ByS w BK b 72 (mkF m) (.slice la k lc) k 3 [(.slice a1 (k + 1) c1, k + 1), (.slice a2 (k + 2) c2, k + 2), (.slice a3 (k + 3) c3, k + 3)] [(P5, 1)] wq284) := by
        rw [hwq284]
        exact (HB0.out.weak (A' := [(P5, 1)]) (fun r hr => hr) (fun p hp => by simp at hp; subst hp; simp)).below ((Below.refl _ _).alloc (Nat.le_refl _) _)
       rw [← hwq284, ← hX285] at hN4
       have HN287 : Hid (∀ j u, ([.slice la k lc, .slice a1 (k + 1) c1, .slice a2 (k + 2) c2, .slice a3 (k + 3) c3] : List Value)[j]? = some u → wq284.cell? ((⟨X285, 0, none⟩ : Addr).add j) = some u) := hN4
       rw [← hwq284, ← hX285]
       clear hwq284 hX285 HB0 hN4
       refine ⟨rfl, hK _ _ (fun _ => HSS.out _ _ _ _ HQ286.out (by simp)) ?_⟩
       clear hK K
       refine MixJ.many [22] 3 (by kernel_rfl) (by decide) (by kernel_rfl) ?_
       intro i hi
       simp only [zMc, zMn, or_false] at hi
       subst hi
       refine ⟨_, rfl, fun K hK => ?_⟩
       have hob := HQ286.out.bk.og
       rw [HBV.out, HEN.out] at hob
       go_wp2_with (first | (at_builtin; refine wpList_append_own_at _ rfl (.tmp 30) (.tmp 47) 29 rfl 0 34 i1 _ 1 24 Tryz.underlying29 hi1 hy0 hy1 hy2 rfl (by decide) _ _ _ rfl hob ⟨X285, 0, none⟩ 4 4 [.slice la k lc, .slice a1 (k + 1) c1, .slice a2 (k + 2) c2, .slice a3 (k + 3) c3] rfl rfl ?ca2891 ?ca2892 ?ca2893 ?ca2894 ?ca2895 ?_))
       try (case ca2891 => exact HN287.out)
       try (case ca2892 => first | exact ⟨rfl, rfl, rfl, rfl⟩ | (intro u hu; simp only [zMc, zMn, or_false] at hu; rcases hu with rfl | rfl | rfl | rfl <;> rfl))
       try (case ca2893 => unfold maxLen; omega)
       try (case ca2894 => omega)
       try (case ca2895 => exact Nat.zero_le _)
       intro u5 wq288 r1 r2 _ r4
       obtain ⟨ua290, uc291, hu5⟩ := owns_shape r1
       subst hu5
       have cc : Ch (fun q => b.hl.ownBlock = some q) wq284 wq288 := (Ch.ofGrown r2).mono (fun x _ q => by rw [HBV.out]; exact q)
       have cK0 : wq288.cell? ⟨BK, 0, none⟩ = some (.slice ba N bc) := by
        have := cc.cell HQ286.out.bk.c0 (fun e => HQ286.out.bk.nK BK (.inl e) rfl)
        rw [HBV.out] at this
        exact this
       have fK0 : wq288.frozen? ⟨BK, 0, none⟩ = false := (cc.frozen (p := ⟨BK, 0, none⟩) (HQ286.out.bk.lt BK (.inl rfl)) (fun e => HQ286.out.bk.nK BK (.inl e) rfl)).trans (HQ286.out.bk.fz 0)
       have HR : Hid (RESG w BK b la lc k m (wq288.setCell ⟨BK, 0, none⟩ (.slice ua290 (N + 4) uc291))) := by
        have hrr := res_gaps HQ286.out HLT.out HBV.out HEN.out [(.slice la k lc, k), (.slice a1 (k + 1) c1, k + 1), (.slice a2 (k + 2) c2, k + 2), (.slice a3 (k + 3) c3, k + 3)] (by intro r hr; simp only [zMc, zMn, or_false] at hr; rcases hr with rfl | rfl | rfl | rfl <;> simp) r1 r2 r4
        exact ⟨_, [(.slice la k lc, k), (.slice a1 (k + 1) c1, k + 1), (.slice a2 (k + 2) c2, k + 2), (.slice a3 (k + 3) c3, k + 3)], hrr, rfl, by intro r hr; rw [List.mem_map] at hr; obtain ⟨y, _, rfl⟩ := hr; rfl⟩
       have cP5 : wq288.rangeAt P5 0 (flC (mkN m)).toList := fun j u hu => cc.cell (al_rng HQ286.out.al (by simp) j u hu) HP5.out
       clear r1 r2 r4 cc HN287 hob HQ286
       (try go_wp2)
       refine ⟨rfl, hK _ _ (fun _ => ⟨cK0, cP5⟩) ?_⟩
       clear hK K
       refine MixJ.many [23] 2 (by kernel_rfl) (by decide) (by kernel_rfl) ?_
       intro i hi
       simp only [zMc, zMn, or_false] at hi
       subst hi
       refine ⟨_, rfl, fun K hK => ?_⟩
       go_wp2
       refine ⟨rfl, hK _ _ (fun _ => ⟨cK0, cP5⟩) ?_⟩
       clear hK K
       refine MixJ.many [24] 1 (by kernel_rfl) (by decide) (by kernel_rfl) ?_
       intro i hi
       simp only [zMc, zMn, or_false] at hi
       subst hi
       refine ⟨_, rfl, fun K hK => ?_⟩
       go_wp2
       refine ⟨rfl, hK _ _ (fun _ => ⟨cK0, cP5⟩) ?_⟩
       clear hK K
       refine MixJ.many [25] 0 (by kernel_rfl) (by decide) (by kernel_rfl) ?_
       intro i hi
       simp only [zMc, zMn, or_false] at hi
       subst hi
       refine ⟨_, rfl, fun K hK => ?_⟩
       go_wp2
       refine ⟨rfl, hK _ _ (fun q => absurd rfl q) ?_⟩
       clear hK K
       refine MixJ.done (by kernel_rfl) ?_
       go_wp2
       go_meet
       exact HR
     case rest =>
      obtain ⟨u, vs, ⟨r1, r2, r3⟩, hv4, _⟩ := hcut.out
      obtain ⟨b1, hb1⟩ : ∃ b1, b1 = ({ b with hl := u, G := b.G ++ vs.map (fun r => (r.1, r.2, m)) } : BV) := ⟨_, rfl⟩
      rw [← hb1] at r1 r3
      have hml : b1.Mg.length = N := by rw [hb1, ← HEN.out]; simp only; rw [HE.out, List.length_map]
      obtain ⟨ma, mc, hmv⟩ := owns_shape r1.on
      rw [hml] at hmv
      have c2 := r1.c1
      rw [hmv] at c2
      have hom := r1.on
      rw [hmv, hml] at hom
      have HB1 : Hid (BkM wc BK b1) := r1
      have HMV : Hid (b1.hn = .slice ma N mc ∧ b1.Mg.length = N) := ⟨hmv, hml⟩
      have HX : Hid (Ch (fun x => BB BK b x ∨ (Value.slice la k lc).ownBlock = some x) w wc ∧ (∀ x, BB BK b1 x → BB BK b x ∨ (Value.slice la k lc).ownBlock = some x ∨ w.heap.size ≤ x)) := ⟨r2, r3⟩
      have HVB : Hid (vs.length = 4 ∧ b1 = ({ b with hl := u, G := b.G ++ vs.map (fun r => (r.1, r.2, m)) } : BV)) := ⟨hv4, hb1⟩
      clear r1 r2 r3 hv4 hb1 hml hmv hcut H1
      go_wp2_with (first | (at_builtin; refine wpList_append_own_at _ rfl (.tmp 55) (.tmp 60) 30 rfl 0 3 i2 _ 1 8 Tryz.underlying30 hi2 hx0 hx1 hx2 rfl (by decide) _ _ _ rfl (hom.alloc _) ⟨wc.heap.size, 0, none⟩ 4 4 [.int .i64 m, .int .i64 m, .int .i64 m, .int .i64 m] rfl rfl ?zz1 ?zz2 ?zz3 ?zz4 ?zz5 ?_))
      try (case zz1 => exact fourW _ _ _ _ _ _)
      try (case zz2 => first | exact ⟨rfl, rfl, rfl, rfl⟩ | rfl | (intro u hu; simp only [zMc, zMn, or_false] at hu; rcases hu with rfl | rfl | rfl | rfl <;> rfl))
      try (case zz3 => unfold maxLen; omega)
      try (case zz4 => omega)
      try (case zz5 => exact Nat.zero_le _)
      intro u5 w5 s1 s2 _ s4
      obtain ⟨ua, uc, hu5⟩ := owns_shape s1
      subst hu5
      have hal : Below wc.heap.size wc (wc.alloc (.cells #[.int .i64 m, .int .i64 m, .int .i64 m, .int .i64 m] 3)) := (Below.refl _ _).alloc (Nat.le_refl _) _
      have hba := HB1.out.below hal
      obtain ⟨q1, q2, q3⟩ := res_marksG hba HMV.out.1 HMV.out.2 [m, m, m, m] s1 s2 (by simp only [World.size_alloc]; exact s4)
      have cK2 : ∃ z, w5.cell? ⟨BK, 1, none⟩ = some z := ⟨_, (Ch.ofGrown s2).cell (World.cell?_of_block (hal.block BK (HB1.out.lt BK (.inl rfl))) |>.trans c2) (fun e => HB1.out.nK BK (.inr (.inl (by rw [HMV.out.1]; exact e))) rfl)⟩
      obtain ⟨zK, cK2⟩ := cK2
      have fK2 : w5.frozen? ⟨BK, 1, none⟩ = false := ((Ch.ofGrown s2).frozen (p := ⟨BK, 1, none⟩) (Nat.lt_of_lt_of_le (HB1.out.lt BK (.inl rfl)) hal.size) (fun e => HB1.out.nK BK (.inr (.inl (by rw [HMV.out.1]; exact e))) rfl)).trans (hba.fz 1)
      have HD : Hid (BkD w BK b (fun q => (Value.slice la k lc).ownBlock = some q) (w5.setCell ⟨BK, 1, none⟩ (.slice ua (N + 4) uc))) := by
       have hsz := HX.out.1.size
       have hsz2 := hal.size
       refine ⟨_, q1, ?_, ?_, ?_, ?_⟩
       · have e := HVB.out.2
         rw [e]
         show b.Mg ++ [m, m, m, m] = _
         rw [HE.out, List.map_append, List.map_map]
         congr 1
         have e2 : vs.map ((fun r : Value × Nat × Int => r.2.2) ∘ fun r : Value × Nat => (r.1, r.2, m)) = List.replicate vs.length m := by
          rw [← List.map_const]
          rfl
         rw [e2, HVB.out.1]
         rfl
       · rw [HVB.out.2]
         show (b.G ++ _).length ≤ _
         rw [List.length_append, List.length_map, HVB.out.1]
         exact Nat.le_refl _
       · intro x hx
         rcases q3 x hx with z | z
         · exact HX.out.2 x z
         · exact .inr (.inr (by omega))
       · refine (HX.out.1.trans (Ch.ofBelow (S := fun _ => False) hal) (fun _ _ z => z.elim)).trans q2 (fun x hx z => ?_)
         rcases HX.out.2 x z with y | y | y
         · exact .inl y
         · exact .inr y
         · omega
      clear q1 q2 q3 s1 s2 s4 hba hal hom c2 HB1 HX HVB
      go_wp2
      go_end0
      exact ⟨rfl, HD.out⟩
   · have d0 : (k : Int) < (n : Int) := by omega
     have hkn : k < n := by omega
     have p1 : decide ((k : Int) < (n : Int)) = true := decide_eq_true (by omega)
     have p2 : decide (k < n) = true := decide_eq_true hkn
     have i00 : (0 : Int) ≤ (k : Int) := by omega
     have i22 : ((k : Int)).toNat = k := by omega
     have wi : IntKind.i64.wrap ((k : Int) + 1) = (k : Int) + 1 := i64_k _ (by omega) (by omega)
     have hlen : (List.replicate k (mkN m) ++ S.drop k).length = n := by rw [List.length_append, List.length_replicate, List.length_drop, HSN.out]; omega
     have HLEN : Hid ((List.replicate k (mkN m) ++ S.drop k).length = n ∧ k < n) := ⟨hlen, hkn⟩
     obtain ⟨f0, hf0⟩ : ∃ f0, (List.replicate k (mkN m) ++ S.drop k)[k]? = some f0 := ⟨_, List.getElem?_eq_getElem (by omega)⟩
     obtain ⟨g, c', hv, _, _, _⟩ := HK.out.1.at k f0 hf0
     simp only [Value.slice.injEq] at hv
     obtain ⟨rfl, x1, x2⟩ := hv
     have HFP : Hid (FloAt wr P5 (mkN m)) := HP0.out.ch HK.out.2 HPL.out.1
     clear x1 x2 hf0 hlen hge hk
     go_wp2_with (first | (refine wpList_load_flo (.tmp 5) rfl P5 (mkN m) rfl HFP.out rfl ?_) | (refine wpList_store_fr (.tmp 25) (.tmp 24) rfl rfl 0 g n lc k (List.replicate k (mkN m) ++ S.drop k) (mkN m) rfl rfl HK.out.1 HLEN.out.1 HLEN.out.2 rfl ?_; intro w2 h2 k2))
     have HK2 : Hid (FL w2 0 (.slice (some ⟨g, 0, none⟩) n lc) (List.replicate (k + 1) (mkN m) ++ S.drop (k + 1)) ∧ Ch (fun q => (Value.slice (some ⟨g, 0, none⟩) n lc).ownBlock = some q) w1 w2) := by
      rw [fill_next HSN.out HLEN.out.2] at h2
      exact ⟨h2, HK.out.2.trans k2 (fun x _ q => by have e : x = g := q; subst e; rfl)⟩
     clear h2 k2
     go_wp2_with fail
     go_roundw
     case rel => exact ⟨k + 1, HLEN.out.2, by go_num, HK2.out⟩
     case measure => have := HLEN.out.2; simp [intOf]; omega
end Go.Proofs.YtclpeepnngegaaaGreatDoor
