/-
  Book.bytes: a row that was handed out gets its mark in all its places, and is kept with three that are longer.
-/
import Derived.Test.YtcoaghcmbhogjaaKWb
import Derived.Test.YtcoaghcmbhogjaaMixJ
import Derived.Test.YtcoaghcmbhogjaaHBytes
import Derived.Deep.DeepCutAuto
namespace Go.Proofs.Ytcoaghcmbhogjaa
open Go.RowKit Go.Maps
namespace H11
theorem yields_hdr {ops : Array Oper} {o : Oper} {a : Act} {S : World → Prop} (x : Operand) (ho : o.op = .load 62 x) (p : Addr) (u : Value) (hx : a.eval x = .pointer (some p)) (hw : Region.wanted o (yielded ops a.tmps) = true) (hS : ∀ w, S w → w.cell? p = some u) : YieldsIf Try.prog ops S o u a := by
  refine .inl ⟨hw, fun w hb => ?_⟩
  have hc := hS w hb
  have hu := Try.underlying62
  obtain ⟨dst, op, type, pos, after, guard⟩ := o
  simp only at ho
  subst ho
  simp only [execOp, Sem.run_bind, Sem.run_pure]
  rw [hx]
  simp [Instr.loadAt, go_sem, hc]
def own_ (la : Option Addr) (n lc : Nat) (q : Nat) : Prop := (Value.slice la n lc).ownBlock = some q
/-- behind the row's own list -/
def RESB (w : World) (BK : Nat) (b : BV) (la : Option Addr) (lc n m : Nat) (W : World) : Prop :=
  ∃ (u : Value) (vs : List (Value × Nat)), (BkM W BK { b with hb := u, E := b.E ++ vs.map (fun r => (r.1, r.2, m)) } ∧ Ch (fun x => BB BK b x ∨ (Value.slice la n lc).ownBlock = some x) w W ∧ (∀ x, BB BK { b with hb := u, E := b.E ++ vs.map (fun r => (r.1, r.2, m)) } x → BB BK b x ∨ (Value.slice la n lc).ownBlock = some x ∨ w.heap.size ≤ x)) ∧ vs.length = 4 ∧ ∀ r, r ∈ vs.map (fun r => (r.1, r.2, m)) → r.2.2 = m
/-- what a call of it leaves -/
def BkD (w : World) (BK : Nat) (b : BV) (own : Nat → Prop) (w' : World) : Prop :=
  ∃ b', BkM w' BK b' ∧ b'.Mb = b'.E.map (fun r => r.2.2) ∧ b'.Mg = b'.G.map (fun r => r.2.2) ∧ b'.E.length ≤ b.E.length + 4 ∧ b'.G.length ≤ b.G.length + 4 ∧ (∀ x, BB BK b' x → BB BK b x ∨ own x ∨ w.heap.size ≤ x) ∧ Ch (fun x => BB BK b x ∨ own x) w w'

set_option maxRecDepth 100000 in
set_option maxHeartbeats 51200000 in
theorem bookBytes_any (w : World) (BK : Nat) (b : BV) (h : BkM w BK b) (hE : b.Mb = b.E.map (fun r => r.2.2)) (hG : b.Mg = b.G.map (fun r => r.2.2)) (la : Option Addr) (lc n : Nat) (xs : List Value) (hl : w.ownsRow 0 5 1 (.slice la n lc) n xs) (hn : n ≤ 65535) (hN : b.E.length ≤ 100000) (hnb : ∀ q, (Value.slice la n lc).ownBlock = some q → ¬ BB BK b q) :
    Calls Try.prog 43 #[.pointer (some ⟨BK, 0, none⟩), .slice la n lc] w fun r w' => r = .returned (.tuple #[]) ∧ BkD w BK b (own_ la n lc) w' := by
  obtain ⟨i0, hi0, hz0, hz1, hz2⟩ := info_parts Try.infoByte
  obtain ⟨i1, hi1, hy0, hy1, hy2⟩ := info_parts Try.infoBytesRow
  obtain ⟨ba, bc, hbv⟩ := owns_shape h.ob
  obtain ⟨N, hNN⟩ : ∃ N, N = b.E.length := ⟨_, rfl⟩
  rw [← hNN] at hbv hN
  obtain ⟨M, hM⟩ : ∃ M, M = N % 200 := ⟨_, rfl⟩
  have hM2 : M < 200 := by rw [hM]; exact Nat.mod_lt _ (by decide)
  have hmod : (N : Int) % 200 = (M : Int) := by omega
  obtain ⟨m, hm⟩ : ∃ m, m = M + 40 := ⟨_, rfl⟩
  have wa : IntKind.i64.wrap ((M : Int) + 40) = (m : Int) := by rw [IntKind.wrap_i64]; omega
  have wu : IntKind.u8.wrap (m : Int) = (m : Int) := by rw [IntKind.wrap_u8]; omega
  have HBV : Hid (b.hb = .slice ba N bc) := hbv
  have HEN : Hid (b.E.length = N) := hNN.symm
  have HE : Hid (b.Mb = b.E.map (fun r => r.2.2) ∧ b.Mg = b.G.map (fun r => r.2.2)) := ⟨hE, hG⟩
  have HLT : Hid (∀ x, BB BK b x → x < w.heap.size) := h.lt
  have HNB : Hid (∀ q, (Value.slice la n lc).ownBlock = some q → ¬ BB BK b q) := hnb
  have HXL : Hid (xs.length = n) := by have := hl.1; show _ = _; omega
  have H : Hid (BkM w BK b) := h
  have c0 := h.c0
  rw [hbv] at c0
  have HL0 : Hid (w.ownsRow 0 5 1 (.slice la n lc) n (rep 0 [.int .u8 (m : Int)] ++ xs.drop 0) ∧ Ch (fun q => (Value.slice la n lc).ownBlock = some q) w w) := ⟨by simpa [rep_zero] using hl, Ch.refl _ _⟩
  clear hbv hNN hM h hE hG hl hnb hm
  go_enter Try.func43, Try.ntmps43
  go_upto_region 1 with fail
  go_wp2
  go_loopw [5] (fun ix wr => ∃ k : Nat, k ≤ n ∧ ix = .int .i64 (k : Int) ∧ Hid (wr.ownsRow 0 5 1 (.slice la n lc) n (rep k [.int .u8 (m : Int)] ++ xs.drop k) ∧ Ch (fun q => (Value.slice la n lc).ownBlock = some q) w wr)) (fun ix _ => n - (intOf ix).toNat)
  case atStart => exact ⟨0, Nat.zero_le _, rfl, HL0⟩
  case round =>
    obtain ⟨k, hk, rfl, HK⟩ := hrel
    clear HL0
    by_cases hge : n ≤ k
    · obtain rfl : k = n := by omega
      have d0 : ¬ (k : Int) < (k : Int) := by omega
      have H1 : Hid (ByS w BK b 5 [.int .u8 (m : Int)] (.slice la k lc) k 0 [] [] wr) := by
        refine ⟨⟨?_, fun r hr => by simp at hr⟩, H.out.ch HK.out.2 (fun x hx q => HNB.out x q hx), HK.out.2, fun p hp => by simp at hp, HNB.out, fun r hr => by simp at hr⟩
        have := HK.out.1
        rw [List.drop_of_length_le (by rw [HXL.out]; exact Nat.le_refl _), List.append_nil] at this
        exact this
      clear hge hk HK HXL c0 hmod
      go_upto_region 5 with fail
      go_cut [] (fun wx => Hid (RESB w BK b la lc k m wx))
      case first =>
        refine MixJ.start (fun A => A.cell? ⟨BK, 0, none⟩ = some (.slice ba N bc)) 25 (by kernel_rfl) ?_
        obtain ⟨wA, hwA⟩ : ∃ wA, wA = wr.drew := ⟨_, rfl⟩
        have H0 : Hid (ByS w BK b 5 [.int .u8 (m : Int)] (.slice la k lc) k 0 [] [] wA) := by rw [hwA]; exact H1.out.below (drew_below (Below.refl _ _))
        rw [← hwA]
        clear hwA H1
        have hS : wA.cell? ⟨BK, 0, none⟩ = some (.slice ba N bc) := by have := H0.out.bk.c0; rw [HBV.out] at this; exact this
        refine MixJ.takes [true, true, true, true] 22 (by kernel_rfl) (by kernel_rfl) (by decide) (by kernel_rfl) (by kernel_rfl) (hS) (fun K hK => ?_)
        simp only [Mix.pick]
        repeat (go_big_quiet_step (fail))
        refine wpQuiet_nil (hK _ ?_)
        clear hK K
        refine MixJ.take 21 4 _ (.slice ba N bc) rfl (by kernel_rfl) (by kernel_rfl) (by kernel_rfl) (by kernel_rfl) (by kernel_rfl) (by kernel_rfl) (yields_hdr (.tmp 27) rfl ⟨BK, 0, none⟩ _ rfl rfl (fun A hA => hA)) (hS) (fun a' ha => ?_)
        simp only [Act.put, List.setIfInBounds_toArray, List.set_cons_succ, List.set_cons_zero] at ha
        subst ha
        refine MixJ.takes [false, false, false, false, false, true, true, true, false, false, true, true, true, false, false, true, true, true, true] 11 (by kernel_rfl) (by kernel_rfl) (by decide) (by kernel_rfl) (by kernel_rfl) (hS) (fun K hK => ?_)
        simp only [Mix.pick]
        repeat (go_big_quiet_step (fail))
        refine wpQuiet_nil (hK _ ?_)
        clear hK K
        clear hS
        refine MixJ.many [8, 13, 19] 10 (by kernel_rfl) (by decide) (by kernel_rfl) ?_
        intro i hi
        simp only [List.mem_cons, List.not_mem_nil, or_false] at hi
        rcases hi with rfl | rfl | rfl
        · refine ⟨_, rfl, fun K hK => ?_⟩
          go_wp2
          obtain ⟨wq1, hwq1⟩ : ∃ x, x = wA.alloc (.cells #[.int .u8 (m : Int)] 5) := ⟨_, rfl⟩
          obtain ⟨X2, hX2⟩ : ∃ x, x = wA.heap.size := ⟨_, rfl⟩
          have HQ3 : Hid (ByS w BK b 5 [.int .u8 (m : Int)] (.slice la k lc) k 0 [] ((X2, 1) :: []) wq1) := by
            rw [hwq1, hX2]
            exact H0.out.new 1 #[.int .u8 (m : Int)] 5 rfl
          rw [← hwq1, ← hX2]
          clear hwq1 hX2 H0
          refine ⟨rfl, hK _ _ (fun _ => by have := HQ3.out.bk.c0; rw [HBV.out] at this; exact this) ?_⟩
          clear hK K
          refine MixJ.many [9, 13, 19] 9 (by kernel_rfl) (by decide) (by kernel_rfl) ?_
          intro i hi
          simp only [List.mem_cons, List.not_mem_nil, or_false] at hi
          rcases hi with rfl | rfl | rfl
          · refine ⟨_, rfl, fun K hK => ?_⟩
            go_wp2_with (first | (at_builtin; refine append_fy rfl (.tmp 30) (.tmp 32) 22 rfl 0 5 i0 _ 1 [.int .u8 (m : Int)] Nat.zero_lt_one Try.underlying22 hi0 hz0 hz1 hz2 rfl (.slice la k lc) k 0 [] rfl HQ3.out.fy ⟨X2, 0, none⟩ 1 1 rfl (by decide) ?ca81 ?ca82 ?ca83 ?ca84 (Nat.zero_le _) ?_))
            try (case ca81 => exact HQ3.out.news (by simp))
            try (case ca82 => first | rfl | (intro u hu; rw [List.mem_singleton.1 hu]; rfl))
            try (case ca83 => unfold maxLen; omega)
            try (case ca84 => omega)
            intro v' wq4 ff
            obtain ⟨f1, f2, f3, f4⟩ := ff.out
            obtain ⟨va6, vc7, rfl⟩ := f4
            have HQ5 : Hid (ByS w BK b 5 [.int .u8 (m : Int)] (.slice la k lc) k 1 ([] ++ [(.slice va6 (k + 1) vc7, k + 1)]) [(X2, 1)] wq4) := HQ3.out.app f1 f2 f3
            clear ff f1 f2 f3 HQ3
            (try go_wp2)
            refine ⟨rfl, hK _ _ (fun _ => by have := HQ5.out.bk.c0; rw [HBV.out] at this; exact this) ?_⟩
            clear hK K
            refine MixJ.many [13, 19] 8 (by kernel_rfl) (by decide) (by kernel_rfl) ?_
            intro i hi
            simp only [List.mem_cons, List.not_mem_nil, or_false] at hi
            rcases hi with rfl | rfl
            · refine ⟨_, rfl, fun K hK => ?_⟩
              go_wp2
              obtain ⟨wq9, hwq9⟩ : ∃ x, x = wq4.alloc (.cells #[.int .u8 (m : Int), .int .u8 (m : Int)] 5) := ⟨_, rfl⟩
              obtain ⟨X10, hX10⟩ : ∃ x, x = wq4.heap.size := ⟨_, rfl⟩
              have HQ11 : Hid (ByS w BK b 5 [.int .u8 (m : Int)] (.slice la k lc) k 1 [(.slice va6 (k + 1) vc7, k + 1)] ((X10, 2) :: [(X2, 1)]) wq9) := by
                rw [hwq9, hX10]
                exact HQ5.out.new 2 #[.int .u8 (m : Int), .int .u8 (m : Int)] 5 rfl
              rw [← hwq9, ← hX10]
              clear hwq9 hX10 HQ5
              refine ⟨rfl, hK _ _ (fun _ => by have := HQ11.out.bk.c0; rw [HBV.out] at this; exact this) ?_⟩
              clear hK K
              refine MixJ.many [14, 19] 7 (by kernel_rfl) (by decide) (by kernel_rfl) ?_
              intro i hi
              simp only [List.mem_cons, List.not_mem_nil, or_false] at hi
              rcases hi with rfl | rfl
              · refine ⟨_, rfl, fun K hK => ?_⟩
                go_wp2_with (first | (at_builtin; refine append_fy rfl (.tmp 34) (.tmp 37) 22 rfl 0 5 i0 _ 1 [.int .u8 (m : Int)] Nat.zero_lt_one Try.underlying22 hi0 hz0 hz1 hz2 rfl (.slice la k lc) k 1 [(.slice va6 (k + 1) vc7, k + 1)] rfl HQ11.out.fy ⟨X10, 0, none⟩ 2 2 rfl (by decide) ?ca161 ?ca162 ?ca163 ?ca164 (Nat.zero_le _) ?_))
                try (case ca161 => exact HQ11.out.news (by simp))
                try (case ca162 => first | rfl | (intro u hu; rw [List.mem_singleton.1 hu]; rfl))
                try (case ca163 => unfold maxLen; omega)
                try (case ca164 => omega)
                intro v' wq12 ff
                obtain ⟨f1, f2, f3, f4⟩ := ff.out
                obtain ⟨va14, vc15, rfl⟩ := f4
                have HQ13 : Hid (ByS w BK b 5 [.int .u8 (m : Int)] (.slice la k lc) k 2 ([(.slice va6 (k + 1) vc7, k + 1)] ++ [(.slice va14 (k + 2) vc15, k + 2)]) [(X10, 2), (X2, 1)] wq12) := HQ11.out.app f1 f2 f3
                clear ff f1 f2 f3 HQ11
                (try go_wp2)
                refine ⟨rfl, hK _ _ (fun _ => by have := HQ13.out.bk.c0; rw [HBV.out] at this; exact this) ?_⟩
                clear hK K
                refine MixJ.many [19] 6 (by kernel_rfl) (by decide) (by kernel_rfl) ?_
                intro i hi
                simp only [List.mem_cons, List.not_mem_nil, or_false] at hi
                subst hi
                refine ⟨_, rfl, fun K hK => ?_⟩
                go_wp2
                obtain ⟨wq17, hwq17⟩ : ∃ x, x = wq12.alloc (.cells #[.int .u8 (m : Int), .int .u8 (m : Int), .int .u8 (m : Int)] 5) := ⟨_, rfl⟩
                obtain ⟨X18, hX18⟩ : ∃ x, x = wq12.heap.size := ⟨_, rfl⟩
                have HQ19 : Hid (ByS w BK b 5 [.int .u8 (m : Int)] (.slice la k lc) k 2 [(.slice va6 (k + 1) vc7, k + 1), (.slice va14 (k + 2) vc15, k + 2)] ((X18, 3) :: [(X10, 2), (X2, 1)]) wq17) := by
                  rw [hwq17, hX18]
                  exact HQ13.out.new 3 #[.int .u8 (m : Int), .int .u8 (m : Int), .int .u8 (m : Int)] 5 rfl
                rw [← hwq17, ← hX18]
                clear hwq17 hX18 HQ13
                refine ⟨rfl, hK _ _ (fun _ => by have := HQ19.out.bk.c0; rw [HBV.out] at this; exact this) ?_⟩
                clear hK K
                refine MixJ.many [20] 5 (by kernel_rfl) (by decide) (by kernel_rfl) ?_
                intro i hi
                simp only [List.mem_cons, List.not_mem_nil, or_false] at hi
                subst hi
                refine ⟨_, rfl, fun K hK => ?_⟩
                go_wp2_with (first | (at_builtin; refine append_fy rfl (.tmp 39) (.tmp 43) 22 rfl 0 5 i0 _ 1 [.int .u8 (m : Int)] Nat.zero_lt_one Try.underlying22 hi0 hz0 hz1 hz2 rfl (.slice la k lc) k 2 [(.slice va6 (k + 1) vc7, k + 1), (.slice va14 (k + 2) vc15, k + 2)] rfl HQ19.out.fy ⟨X18, 0, none⟩ 3 3 rfl (by decide) ?ca241 ?ca242 ?ca243 ?ca244 (Nat.zero_le _) ?_))
                try (case ca241 => exact HQ19.out.news (by simp))
                try (case ca242 => first | rfl | (intro u hu; rw [List.mem_singleton.1 hu]; rfl))
                try (case ca243 => unfold maxLen; omega)
                try (case ca244 => omega)
                intro v' wq20 ff
                obtain ⟨f1, f2, f3, f4⟩ := ff.out
                obtain ⟨va22, vc23, rfl⟩ := f4
                have HQ21 : Hid (ByS w BK b 5 [.int .u8 (m : Int)] (.slice la k lc) k 3 ([(.slice va6 (k + 1) vc7, k + 1), (.slice va14 (k + 2) vc15, k + 2)] ++ [(.slice va22 (k + 3) vc23, k + 3)]) [(X18, 3), (X10, 2), (X2, 1)] wq20) := HQ19.out.app f1 f2 f3
                clear ff f1 f2 f3 HQ19
                (try go_wp2)
                refine ⟨rfl, hK _ _ (fun _ => by have := HQ21.out.bk.c0; rw [HBV.out] at this; exact this) ?_⟩
                clear hK K
                refine MixJ.many [21] 4 (by kernel_rfl) (by decide) (by kernel_rfl) ?_
                intro i hi
                simp only [List.mem_cons, List.not_mem_nil, or_false] at hi
                subst hi
                refine ⟨_, rfl, fun K hK => ?_⟩
                go_wp2
                have hN4 := fourW wq20 (.slice la k lc) (.slice va6 (k + 1) vc7) (.slice va14 (k + 2) vc15) (.slice va22 (k + 3) vc23) 22
                obtain ⟨wq25, hwq25⟩ : ∃ x, x = wq20.alloc (.cells #[.slice la k lc, .slice va6 (k + 1) vc7, .slice va14 (k + 2) vc15, .slice va22 (k + 3) vc23] 22) := ⟨_, rfl⟩
                obtain ⟨X26, hX26⟩ : ∃ x, x = wq20.heap.size := ⟨_, rfl⟩
                have HQ27 : Hid (ByS w BK b 5 [.int .u8 (m : Int)] (.slice la k lc) k 3 [(.slice va6 (k + 1) vc7, k + 1), (.slice va14 (k + 2) vc15, k + 2), (.slice va22 (k + 3) vc23, k + 3)] [] wq25) := by
                  rw [hwq25]
                  exact (HQ21.out.weak (A' := []) (fun r hr => hr) (fun p hp => by simp at hp)).below ((Below.refl _ _).alloc (Nat.le_refl _) _)
                rw [← hwq25, ← hX26] at hN4
                have HN28 : Hid (∀ j u, ([.slice la k lc, .slice va6 (k + 1) vc7, .slice va14 (k + 2) vc15, .slice va22 (k + 3) vc23] : List Value)[j]? = some u → wq25.cell? ((⟨X26, 0, none⟩ : Addr).add j) = some u) := hN4
                rw [← hwq25, ← hX26]
                clear hwq25 hX26 HQ21 hN4
                refine ⟨rfl, hK _ _ (fun _ => by have := HQ27.out.bk.c0; rw [HBV.out] at this; exact this) ?_⟩
                clear hK K
                refine MixJ.many [22] 3 (by kernel_rfl) (by decide) (by kernel_rfl) ?_
                intro i hi
                simp only [List.mem_cons, List.not_mem_nil, or_false] at hi
                subst hi
                refine ⟨_, rfl, fun K hK => ?_⟩
                have hob := HQ27.out.bk.ob
                rw [HBV.out, HEN.out] at hob
                go_wp2_with (first | (at_builtin; refine wpList_append_own_at _ rfl (.tmp 28) (.tmp 45) 62 rfl 0 22 i1 _ 1 24 Try.underlying62 hi1 hy0 hy1 hy2 rfl (by decide) _ _ _ rfl hob ⟨X26, 0, none⟩ 4 4 [.slice la k lc, .slice va6 (k + 1) vc7, .slice va14 (k + 2) vc15, .slice va22 (k + 3) vc23] rfl rfl ?ca301 ?ca302 ?ca303 ?ca304 ?ca305 ?_))
                try (case ca301 => exact HN28.out)
                try (case ca302 => first | exact ⟨rfl, rfl, rfl, rfl⟩ | (intro u hu; simp only [List.mem_cons, List.not_mem_nil, or_false] at hu; rcases hu with rfl | rfl | rfl | rfl <;> rfl))
                try (case ca303 => unfold maxLen; omega)
                try (case ca304 => omega)
                try (case ca305 => exact Nat.zero_le _)
                intro u5 wq29 r1 r2 _ r4
                obtain ⟨ua31, uc32, hu5⟩ := owns_shape r1
                subst hu5
                have cc : Ch (fun q => b.hb.ownBlock = some q) wq25 wq29 := (Ch.ofGrown r2).mono (fun x _ q => by rw [HBV.out]; exact q)
                have cK0 : wq29.cell? ⟨BK, 0, none⟩ = some (.slice ba N bc) := by
                  have := cc.cell HQ27.out.bk.c0 (fun e => HQ27.out.bk.nK BK (.inl e) rfl)
                  rw [HBV.out] at this
                  exact this
                have fK0 : wq29.frozen? ⟨BK, 0, none⟩ = false := (cc.frozen (p := ⟨BK, 0, none⟩) (HQ27.out.bk.lt BK (.inl rfl)) (fun e => HQ27.out.bk.nK BK (.inl e) rfl)).trans (HQ27.out.bk.fz 0)
                have HR : Hid (RESB w BK b la lc k m (wq29.setCell ⟨BK, 0, none⟩ (.slice ua31 (N + 4) uc32))) := by
                  have hrr := res_bytes HQ27.out HLT.out HBV.out HEN.out [(.slice la k lc, k), (.slice va6 (k + 1) vc7, k + 1), (.slice va14 (k + 2) vc15, k + 2), (.slice va22 (k + 3) vc23, k + 3)] (by intro r hr; simp only [List.mem_cons, List.not_mem_nil, or_false] at hr; rcases hr with rfl | rfl | rfl | rfl <;> simp) r1 r2 r4
                  exact ⟨_, [(.slice la k lc, k), (.slice va6 (k + 1) vc7, k + 1), (.slice va14 (k + 2) vc15, k + 2), (.slice va22 (k + 3) vc23, k + 3)], hrr, rfl, by intro r hr; rw [List.mem_map] at hr; obtain ⟨y, _, rfl⟩ := hr; rfl⟩
                clear r1 r2 r4 cc HN28 hob HQ27
                (try go_wp2)
                refine ⟨rfl, hK _ _ (fun _ => cK0) ?_⟩
                clear hK K
                refine MixJ.many [23] 2 (by kernel_rfl) (by decide) (by kernel_rfl) ?_
                intro i hi
                simp only [List.mem_cons, List.not_mem_nil, or_false] at hi
                subst hi
                refine ⟨_, rfl, fun K hK => ?_⟩
                go_wp2
                refine ⟨rfl, hK _ _ (fun _ => cK0) ?_⟩
                clear hK K
                refine MixJ.many [24] 1 (by kernel_rfl) (by decide) (by kernel_rfl) ?_
                intro i hi
                simp only [List.mem_cons, List.not_mem_nil, or_false] at hi
                subst hi
                refine ⟨_, rfl, fun K hK => ?_⟩
                go_wp2
                refine ⟨rfl, hK _ _ (fun _ => cK0) ?_⟩
                clear hK K
                refine MixJ.many [25] 0 (by kernel_rfl) (by decide) (by kernel_rfl) ?_
                intro i hi
                simp only [List.mem_cons, List.not_mem_nil, or_false] at hi
                subst hi
                refine ⟨_, rfl, fun K hK => ?_⟩
                go_wp2
                refine ⟨rfl, hK _ _ (fun q => absurd rfl q) ?_⟩
                clear hK K
                refine MixJ.done (by kernel_rfl) ?_
                go_wp2
                go_meet
                exact HR
              · refine ⟨_, rfl, fun K hK => ?_⟩
                go_wp2
                obtain ⟨wq33, hwq33⟩ : ∃ x, x = wq9.alloc (.cells #[.int .u8 (m : Int), .int .u8 (m : Int), .int .u8 (m : Int)] 5) := ⟨_, rfl⟩
                obtain ⟨X34, hX34⟩ : ∃ x, x = wq9.heap.size := ⟨_, rfl⟩
                have HQ35 : Hid (ByS w BK b 5 [.int .u8 (m : Int)] (.slice la k lc) k 1 [(.slice va6 (k + 1) vc7, k + 1)] ((X34, 3) :: [(X10, 2), (X2, 1)]) wq33) := by
                  rw [hwq33, hX34]
                  exact HQ11.out.new 3 #[.int .u8 (m : Int), .int .u8 (m : Int), .int .u8 (m : Int)] 5 rfl
                rw [← hwq33, ← hX34]
                clear hwq33 hX34 HQ11
                refine ⟨rfl, hK _ _ (fun _ => by have := HQ35.out.bk.c0; rw [HBV.out] at this; exact this) ?_⟩
                clear hK K
                refine MixJ.many [14] 6 (by kernel_rfl) (by decide) (by kernel_rfl) ?_
                intro i hi
                simp only [List.mem_cons, List.not_mem_nil, or_false] at hi
                subst hi
                refine ⟨_, rfl, fun K hK => ?_⟩
                go_wp2_with (first | (at_builtin; refine append_fy rfl (.tmp 34) (.tmp 37) 22 rfl 0 5 i0 _ 1 [.int .u8 (m : Int)] Nat.zero_lt_one Try.underlying22 hi0 hz0 hz1 hz2 rfl (.slice la k lc) k 1 [(.slice va6 (k + 1) vc7, k + 1)] rfl HQ35.out.fy ⟨X10, 0, none⟩ 2 2 rfl (by decide) ?ca401 ?ca402 ?ca403 ?ca404 (Nat.zero_le _) ?_))
                try (case ca401 => exact HQ35.out.news (by simp))
                try (case ca402 => first | rfl | (intro u hu; rw [List.mem_singleton.1 hu]; rfl))
                try (case ca403 => unfold maxLen; omega)
                try (case ca404 => omega)
                intro v' wq36 ff
                obtain ⟨f1, f2, f3, f4⟩ := ff.out
                obtain ⟨va38, vc39, rfl⟩ := f4
                have HQ37 : Hid (ByS w BK b 5 [.int .u8 (m : Int)] (.slice la k lc) k 2 ([(.slice va6 (k + 1) vc7, k + 1)] ++ [(.slice va38 (k + 2) vc39, k + 2)]) [(X34, 3), (X10, 2), (X2, 1)] wq36) := HQ35.out.app f1 f2 f3
                clear ff f1 f2 f3 HQ35
                (try go_wp2)
                refine ⟨rfl, hK _ _ (fun _ => by have := HQ37.out.bk.c0; rw [HBV.out] at this; exact this) ?_⟩
                clear hK K
                refine MixJ.many [20] 5 (by kernel_rfl) (by decide) (by kernel_rfl) ?_
                intro i hi
                simp only [List.mem_cons, List.not_mem_nil, or_false] at hi
                subst hi
                refine ⟨_, rfl, fun K hK => ?_⟩
                go_wp2_with (first | (at_builtin; refine append_fy rfl (.tmp 39) (.tmp 43) 22 rfl 0 5 i0 _ 1 [.int .u8 (m : Int)] Nat.zero_lt_one Try.underlying22 hi0 hz0 hz1 hz2 rfl (.slice la k lc) k 2 [(.slice va6 (k + 1) vc7, k + 1), (.slice va38 (k + 2) vc39, k + 2)] rfl HQ37.out.fy ⟨X34, 0, none⟩ 3 3 rfl (by decide) ?ca451 ?ca452 ?ca453 ?ca454 (Nat.zero_le _) ?_))
                try (case ca451 => exact HQ37.out.news (by simp))
                try (case ca452 => first | rfl | (intro u hu; rw [List.mem_singleton.1 hu]; rfl))
                try (case ca453 => unfold maxLen; omega)
                try (case ca454 => omega)
                intro v' wq41 ff
                obtain ⟨f1, f2, f3, f4⟩ := ff.out
                obtain ⟨va43, vc44, rfl⟩ := f4
                have HQ42 : Hid (ByS w BK b 5 [.int .u8 (m : Int)] (.slice la k lc) k 3 ([(.slice va6 (k + 1) vc7, k + 1), (.slice va38 (k + 2) vc39, k + 2)] ++ [(.slice va43 (k + 3) vc44, k + 3)]) [(X34, 3), (X10, 2), (X2, 1)] wq41) := HQ37.out.app f1 f2 f3
                clear ff f1 f2 f3 HQ37
                (try go_wp2)
                refine ⟨rfl, hK _ _ (fun _ => by have := HQ42.out.bk.c0; rw [HBV.out] at this; exact this) ?_⟩
                clear hK K
                refine MixJ.many [21] 4 (by kernel_rfl) (by decide) (by kernel_rfl) ?_
                intro i hi
                simp only [List.mem_cons, List.not_mem_nil, or_false] at hi
                subst hi
                refine ⟨_, rfl, fun K hK => ?_⟩
                go_wp2
                have hN4 := fourW wq41 (.slice la k lc) (.slice va6 (k + 1) vc7) (.slice va38 (k + 2) vc39) (.slice va43 (k + 3) vc44) 22
                obtain ⟨wq46, hwq46⟩ : ∃ x, x = wq41.alloc (.cells #[.slice la k lc, .slice va6 (k + 1) vc7, .slice va38 (k + 2) vc39, .slice va43 (k + 3) vc44] 22) := ⟨_, rfl⟩
                obtain ⟨X47, hX47⟩ : ∃ x, x = wq41.heap.size := ⟨_, rfl⟩
                have HQ48 : Hid (ByS w BK b 5 [.int .u8 (m : Int)] (.slice la k lc) k 3 [(.slice va6 (k + 1) vc7, k + 1), (.slice va38 (k + 2) vc39, k + 2), (.slice va43 (k + 3) vc44, k + 3)] [] wq46) := by
                  rw [hwq46]
                  exact (HQ42.out.weak (A' := []) (fun r hr => hr) (fun p hp => by simp at hp)).below ((Below.refl _ _).alloc (Nat.le_refl _) _)
                rw [← hwq46, ← hX47] at hN4
                have HN49 : Hid (∀ j u, ([.slice la k lc, .slice va6 (k + 1) vc7, .slice va38 (k + 2) vc39, .slice va43 (k + 3) vc44] : List Value)[j]? = some u → wq46.cell? ((⟨X47, 0, none⟩ : Addr).add j) = some u) := hN4
                rw [← hwq46, ← hX47]
                clear hwq46 hX47 HQ42 hN4
                refine ⟨rfl, hK _ _ (fun _ => by have := HQ48.out.bk.c0; rw [HBV.out] at this; exact this) ?_⟩
                clear hK K
                refine MixJ.many [22] 3 (by kernel_rfl) (by decide) (by kernel_rfl) ?_
                intro i hi
                simp only [List.mem_cons, List.not_mem_nil, or_false] at hi
                subst hi
                refine ⟨_, rfl, fun K hK => ?_⟩
                have hob := HQ48.out.bk.ob
                rw [HBV.out, HEN.out] at hob
                go_wp2_with (first | (at_builtin; refine wpList_append_own_at _ rfl (.tmp 28) (.tmp 45) 62 rfl 0 22 i1 _ 1 24 Try.underlying62 hi1 hy0 hy1 hy2 rfl (by decide) _ _ _ rfl hob ⟨X47, 0, none⟩ 4 4 [.slice la k lc, .slice va6 (k + 1) vc7, .slice va38 (k + 2) vc39, .slice va43 (k + 3) vc44] rfl rfl ?ca511 ?ca512 ?ca513 ?ca514 ?ca515 ?_))
                try (case ca511 => exact HN49.out)
                try (case ca512 => first | exact ⟨rfl, rfl, rfl, rfl⟩ | (intro u hu; simp only [List.mem_cons, List.not_mem_nil, or_false] at hu; rcases hu with rfl | rfl | rfl | rfl <;> rfl))
                try (case ca513 => unfold maxLen; omega)
                try (case ca514 => omega)
                try (case ca515 => exact Nat.zero_le _)
                intro u5 wq50 r1 r2 _ r4
                obtain ⟨ua52, uc53, hu5⟩ := owns_shape r1
                subst hu5
                have cc : Ch (fun q => b.hb.ownBlock = some q) wq46 wq50 := (Ch.ofGrown r2).mono (fun x _ q => by rw [HBV.out]; exact q)
                have cK0 : wq50.cell? ⟨BK, 0, none⟩ = some (.slice ba N bc) := by
                  have := cc.cell HQ48.out.bk.c0 (fun e => HQ48.out.bk.nK BK (.inl e) rfl)
                  rw [HBV.out] at this
                  exact this
                have fK0 : wq50.frozen? ⟨BK, 0, none⟩ = false := (cc.frozen (p := ⟨BK, 0, none⟩) (HQ48.out.bk.lt BK (.inl rfl)) (fun e => HQ48.out.bk.nK BK (.inl e) rfl)).trans (HQ48.out.bk.fz 0)
                have HR : Hid (RESB w BK b la lc k m (wq50.setCell ⟨BK, 0, none⟩ (.slice ua52 (N + 4) uc53))) := by
                  have hrr := res_bytes HQ48.out HLT.out HBV.out HEN.out [(.slice la k lc, k), (.slice va6 (k + 1) vc7, k + 1), (.slice va38 (k + 2) vc39, k + 2), (.slice va43 (k + 3) vc44, k + 3)] (by intro r hr; simp only [List.mem_cons, List.not_mem_nil, or_false] at hr; rcases hr with rfl | rfl | rfl | rfl <;> simp) r1 r2 r4
                  exact ⟨_, [(.slice la k lc, k), (.slice va6 (k + 1) vc7, k + 1), (.slice va38 (k + 2) vc39, k + 2), (.slice va43 (k + 3) vc44, k + 3)], hrr, rfl, by intro r hr; rw [List.mem_map] at hr; obtain ⟨y, _, rfl⟩ := hr; rfl⟩
                clear r1 r2 r4 cc HN49 hob HQ48
                (try go_wp2)
                refine ⟨rfl, hK _ _ (fun _ => cK0) ?_⟩
                clear hK K
                refine MixJ.many [23] 2 (by kernel_rfl) (by decide) (by kernel_rfl) ?_
                intro i hi
                simp only [List.mem_cons, List.not_mem_nil, or_false] at hi
                subst hi
                refine ⟨_, rfl, fun K hK => ?_⟩
                go_wp2
                refine ⟨rfl, hK _ _ (fun _ => cK0) ?_⟩
                clear hK K
                refine MixJ.many [24] 1 (by kernel_rfl) (by decide) (by kernel_rfl) ?_
                intro i hi
                simp only [List.mem_cons, List.not_mem_nil, or_false] at hi
                subst hi
                refine ⟨_, rfl, fun K hK => ?_⟩
                go_wp2
                refine ⟨rfl, hK _ _ (fun _ => cK0) ?_⟩
                clear hK K
                refine MixJ.many [25] 0 (by kernel_rfl) (by decide) (by kernel_rfl) ?_
                intro i hi
                simp only [List.mem_cons, List.not_mem_nil, or_false] at hi
                subst hi
                refine ⟨_, rfl, fun K hK => ?_⟩
                go_wp2
                refine ⟨rfl, hK _ _ (fun q => absurd rfl q) ?_⟩
                clear hK K
                refine MixJ.done (by kernel_rfl) ?_
                go_wp2
                go_meet
                exact HR
            · refine ⟨_, rfl, fun K hK => ?_⟩
              go_wp2
              obtain ⟨wq54, hwq54⟩ : ∃ x, x = wq4.alloc (.cells #[.int .u8 (m : Int), .int .u8 (m : Int), .int .u8 (m : Int)] 5) := ⟨_, rfl⟩
              obtain ⟨X55, hX55⟩ : ∃ x, x = wq4.heap.size := ⟨_, rfl⟩
              have HQ56 : Hid (ByS w BK b 5 [.int .u8 (m : Int)] (.slice la k lc) k 1 [(.slice va6 (k + 1) vc7, k + 1)] ((X55, 3) :: [(X2, 1)]) wq54) := by
                rw [hwq54, hX55]
                exact HQ5.out.new 3 #[.int .u8 (m : Int), .int .u8 (m : Int), .int .u8 (m : Int)] 5 rfl
              rw [← hwq54, ← hX55]
              clear hwq54 hX55 HQ5
              refine ⟨rfl, hK _ _ (fun _ => by have := HQ56.out.bk.c0; rw [HBV.out] at this; exact this) ?_⟩
              clear hK K
              refine MixJ.many [13] 7 (by kernel_rfl) (by decide) (by kernel_rfl) ?_
              intro i hi
              simp only [List.mem_cons, List.not_mem_nil, or_false] at hi
              subst hi
              refine ⟨_, rfl, fun K hK => ?_⟩
              go_wp2
              obtain ⟨wq57, hwq57⟩ : ∃ x, x = wq54.alloc (.cells #[.int .u8 (m : Int), .int .u8 (m : Int)] 5) := ⟨_, rfl⟩
              obtain ⟨X58, hX58⟩ : ∃ x, x = wq54.heap.size := ⟨_, rfl⟩
              have HQ59 : Hid (ByS w BK b 5 [.int .u8 (m : Int)] (.slice la k lc) k 1 [(.slice va6 (k + 1) vc7, k + 1)] ((X58, 2) :: [(X55, 3), (X2, 1)]) wq57) := by
                rw [hwq57, hX58]
                exact HQ56.out.new 2 #[.int .u8 (m : Int), .int .u8 (m : Int)] 5 rfl
              rw [← hwq57, ← hX58]
              clear hwq57 hX58 HQ56
              refine ⟨rfl, hK _ _ (fun _ => by have := HQ59.out.bk.c0; rw [HBV.out] at this; exact this) ?_⟩
              clear hK K
              refine MixJ.many [14] 6 (by kernel_rfl) (by decide) (by kernel_rfl) ?_
              intro i hi
              simp only [List.mem_cons, List.not_mem_nil, or_false] at hi
              subst hi
              refine ⟨_, rfl, fun K hK => ?_⟩
              go_wp2_with (first | (at_builtin; refine append_fy rfl (.tmp 34) (.tmp 37) 22 rfl 0 5 i0 _ 1 [.int .u8 (m : Int)] Nat.zero_lt_one Try.underlying22 hi0 hz0 hz1 hz2 rfl (.slice la k lc) k 1 [(.slice va6 (k + 1) vc7, k + 1)] rfl HQ59.out.fy ⟨X58, 0, none⟩ 2 2 rfl (by decide) ?ca641 ?ca642 ?ca643 ?ca644 (Nat.zero_le _) ?_))
              try (case ca641 => exact HQ59.out.news (by simp))
              try (case ca642 => first | rfl | (intro u hu; rw [List.mem_singleton.1 hu]; rfl))
              try (case ca643 => unfold maxLen; omega)
              try (case ca644 => omega)
              intro v' wq60 ff
              obtain ⟨f1, f2, f3, f4⟩ := ff.out
              obtain ⟨va62, vc63, rfl⟩ := f4
              have HQ61 : Hid (ByS w BK b 5 [.int .u8 (m : Int)] (.slice la k lc) k 2 ([(.slice va6 (k + 1) vc7, k + 1)] ++ [(.slice va62 (k + 2) vc63, k + 2)]) [(X58, 2), (X55, 3), (X2, 1)] wq60) := HQ59.out.app f1 f2 f3
              clear ff f1 f2 f3 HQ59
              (try go_wp2)
              refine ⟨rfl, hK _ _ (fun _ => by have := HQ61.out.bk.c0; rw [HBV.out] at this; exact this) ?_⟩
              clear hK K
              refine MixJ.many [20] 5 (by kernel_rfl) (by decide) (by kernel_rfl) ?_
              intro i hi
              simp only [List.mem_cons, List.not_mem_nil, or_false] at hi
              subst hi
              refine ⟨_, rfl, fun K hK => ?_⟩
              go_wp2_with (first | (at_builtin; refine append_fy rfl (.tmp 39) (.tmp 43) 22 rfl 0 5 i0 _ 1 [.int .u8 (m : Int)] Nat.zero_lt_one Try.underlying22 hi0 hz0 hz1 hz2 rfl (.slice la k lc) k 2 [(.slice va6 (k + 1) vc7, k + 1), (.slice va62 (k + 2) vc63, k + 2)] rfl HQ61.out.fy ⟨X55, 0, none⟩ 3 3 rfl (by decide) ?ca691 ?ca692 ?ca693 ?ca694 (Nat.zero_le _) ?_))
              try (case ca691 => exact HQ61.out.news (by simp))
              try (case ca692 => first | rfl | (intro u hu; rw [List.mem_singleton.1 hu]; rfl))
              try (case ca693 => unfold maxLen; omega)
              try (case ca694 => omega)
              intro v' wq65 ff
              obtain ⟨f1, f2, f3, f4⟩ := ff.out
              obtain ⟨va67, vc68, rfl⟩ := f4
              have HQ66 : Hid (ByS w BK b 5 [.int .u8 (m : Int)] (.slice la k lc) k 3 ([(.slice va6 (k + 1) vc7, k + 1), (.slice va62 (k + 2) vc63, k + 2)] ++ [(.slice va67 (k + 3) vc68, k + 3)]) [(X58, 2), (X55, 3), (X2, 1)] wq65) := HQ61.out.app f1 f2 f3
              clear ff f1 f2 f3 HQ61
              (try go_wp2)
              refine ⟨rfl, hK _ _ (fun _ => by have := HQ66.out.bk.c0; rw [HBV.out] at this; exact this) ?_⟩
              clear hK K
              refine MixJ.many [21] 4 (by kernel_rfl) (by decide) (by kernel_rfl) ?_
              intro i hi
              simp only [List.mem_cons, List.not_mem_nil, or_false] at hi
              subst hi
              refine ⟨_, rfl, fun K hK => ?_⟩
              go_wp2
              have hN4 := fourW wq65 (.slice la k lc) (.slice va6 (k + 1) vc7) (.slice va62 (k + 2) vc63) (.slice va67 (k + 3) vc68) 22
              obtain ⟨wq70, hwq70⟩ : ∃ x, x = wq65.alloc (.cells #[.slice la k lc, .slice va6 (k + 1) vc7, .slice va62 (k + 2) vc63, .slice va67 (k + 3) vc68] 22) := ⟨_, rfl⟩
              obtain ⟨X71, hX71⟩ : ∃ x, x = wq65.heap.size := ⟨_, rfl⟩
              have HQ72 : Hid (ByS w BK b 5 [.int .u8 (m : Int)] (.slice la k lc) k 3 [(.slice va6 (k + 1) vc7, k + 1), (.slice va62 (k + 2) vc63, k + 2), (.slice va67 (k + 3) vc68, k + 3)] [] wq70) := by
                rw [hwq70]
                exact (HQ66.out.weak (A' := []) (fun r hr => hr) (fun p hp => by simp at hp)).below ((Below.refl _ _).alloc (Nat.le_refl _) _)
              rw [← hwq70, ← hX71] at hN4
              have HN73 : Hid (∀ j u, ([.slice la k lc, .slice va6 (k + 1) vc7, .slice va62 (k + 2) vc63, .slice va67 (k + 3) vc68] : List Value)[j]? = some u → wq70.cell? ((⟨X71, 0, none⟩ : Addr).add j) = some u) := hN4
              rw [← hwq70, ← hX71]
              clear hwq70 hX71 HQ66 hN4
              refine ⟨rfl, hK _ _ (fun _ => by have := HQ72.out.bk.c0; rw [HBV.out] at this; exact this) ?_⟩
              clear hK K
              refine MixJ.many [22] 3 (by kernel_rfl) (by decide) (by kernel_rfl) ?_
              intro i hi
              simp only [List.mem_cons, List.not_mem_nil, or_false] at hi
              subst hi
              refine ⟨_, rfl, fun K hK => ?_⟩
              have hob := HQ72.out.bk.ob
              rw [HBV.out, HEN.out] at hob
              go_wp2_with (first | (at_builtin; refine wpList_append_own_at _ rfl (.tmp 28) (.tmp 45) 62 rfl 0 22 i1 _ 1 24 Try.underlying62 hi1 hy0 hy1 hy2 rfl (by decide) _ _ _ rfl hob ⟨X71, 0, none⟩ 4 4 [.slice la k lc, .slice va6 (k + 1) vc7, .slice va62 (k + 2) vc63, .slice va67 (k + 3) vc68] rfl rfl ?ca751 ?ca752 ?ca753 ?ca754 ?ca755 ?_))
              try (case ca751 => exact HN73.out)
              try (case ca752 => first | exact ⟨rfl, rfl, rfl, rfl⟩ | (intro u hu; simp only [List.mem_cons, List.not_mem_nil, or_false] at hu; rcases hu with rfl | rfl | rfl | rfl <;> rfl))
              try (case ca753 => unfold maxLen; omega)
              try (case ca754 => omega)
              try (case ca755 => exact Nat.zero_le _)
              intro u5 wq74 r1 r2 _ r4
              obtain ⟨ua76, uc77, hu5⟩ := owns_shape r1
              subst hu5
              have cc : Ch (fun q => b.hb.ownBlock = some q) wq70 wq74 := (Ch.ofGrown r2).mono (fun x _ q => by rw [HBV.out]; exact q)
              have cK0 : wq74.cell? ⟨BK, 0, none⟩ = some (.slice ba N bc) := by
                have := cc.cell HQ72.out.bk.c0 (fun e => HQ72.out.bk.nK BK (.inl e) rfl)
                rw [HBV.out] at this
                exact this
              have fK0 : wq74.frozen? ⟨BK, 0, none⟩ = false := (cc.frozen (p := ⟨BK, 0, none⟩) (HQ72.out.bk.lt BK (.inl rfl)) (fun e => HQ72.out.bk.nK BK (.inl e) rfl)).trans (HQ72.out.bk.fz 0)
              have HR : Hid (RESB w BK b la lc k m (wq74.setCell ⟨BK, 0, none⟩ (.slice ua76 (N + 4) uc77))) := by
                have hrr := res_bytes HQ72.out HLT.out HBV.out HEN.out [(.slice la k lc, k), (.slice va6 (k + 1) vc7, k + 1), (.slice va62 (k + 2) vc63, k + 2), (.slice va67 (k + 3) vc68, k + 3)] (by intro r hr; simp only [List.mem_cons, List.not_mem_nil, or_false] at hr; rcases hr with rfl | rfl | rfl | rfl <;> simp) r1 r2 r4
                exact ⟨_, [(.slice la k lc, k), (.slice va6 (k + 1) vc7, k + 1), (.slice va62 (k + 2) vc63, k + 2), (.slice va67 (k + 3) vc68, k + 3)], hrr, rfl, by intro r hr; rw [List.mem_map] at hr; obtain ⟨y, _, rfl⟩ := hr; rfl⟩
              clear r1 r2 r4 cc HN73 hob HQ72
              (try go_wp2)
              refine ⟨rfl, hK _ _ (fun _ => cK0) ?_⟩
              clear hK K
              refine MixJ.many [23] 2 (by kernel_rfl) (by decide) (by kernel_rfl) ?_
              intro i hi
              simp only [List.mem_cons, List.not_mem_nil, or_false] at hi
              subst hi
              refine ⟨_, rfl, fun K hK => ?_⟩
              go_wp2
              refine ⟨rfl, hK _ _ (fun _ => cK0) ?_⟩
              clear hK K
              refine MixJ.many [24] 1 (by kernel_rfl) (by decide) (by kernel_rfl) ?_
              intro i hi
              simp only [List.mem_cons, List.not_mem_nil, or_false] at hi
              subst hi
              refine ⟨_, rfl, fun K hK => ?_⟩
              go_wp2
              refine ⟨rfl, hK _ _ (fun _ => cK0) ?_⟩
              clear hK K
              refine MixJ.many [25] 0 (by kernel_rfl) (by decide) (by kernel_rfl) ?_
              intro i hi
              simp only [List.mem_cons, List.not_mem_nil, or_false] at hi
              subst hi
              refine ⟨_, rfl, fun K hK => ?_⟩
              go_wp2
              refine ⟨rfl, hK _ _ (fun q => absurd rfl q) ?_⟩
              clear hK K
              refine MixJ.done (by kernel_rfl) ?_
              go_wp2
              go_meet
              exact HR
          · refine ⟨_, rfl, fun K hK => ?_⟩
            go_wp2
            obtain ⟨wq78, hwq78⟩ : ∃ x, x = wq1.alloc (.cells #[.int .u8 (m : Int), .int .u8 (m : Int)] 5) := ⟨_, rfl⟩
            obtain ⟨X79, hX79⟩ : ∃ x, x = wq1.heap.size := ⟨_, rfl⟩
            have HQ80 : Hid (ByS w BK b 5 [.int .u8 (m : Int)] (.slice la k lc) k 0 [] ((X79, 2) :: [(X2, 1)]) wq78) := by
              rw [hwq78, hX79]
              exact HQ3.out.new 2 #[.int .u8 (m : Int), .int .u8 (m : Int)] 5 rfl
            rw [← hwq78, ← hX79]
            clear hwq78 hX79 HQ3
            refine ⟨rfl, hK _ _ (fun _ => by have := HQ80.out.bk.c0; rw [HBV.out] at this; exact this) ?_⟩
            clear hK K
            refine MixJ.many [9, 19] 8 (by kernel_rfl) (by decide) (by kernel_rfl) ?_
            intro i hi
            simp only [List.mem_cons, List.not_mem_nil, or_false] at hi
            rcases hi with rfl | rfl
            · refine ⟨_, rfl, fun K hK => ?_⟩
              go_wp2_with (first | (at_builtin; refine append_fy rfl (.tmp 30) (.tmp 32) 22 rfl 0 5 i0 _ 1 [.int .u8 (m : Int)] Nat.zero_lt_one Try.underlying22 hi0 hz0 hz1 hz2 rfl (.slice la k lc) k 0 [] rfl HQ80.out.fy ⟨X2, 0, none⟩ 1 1 rfl (by decide) ?ca851 ?ca852 ?ca853 ?ca854 (Nat.zero_le _) ?_))
              try (case ca851 => exact HQ80.out.news (by simp))
              try (case ca852 => first | rfl | (intro u hu; rw [List.mem_singleton.1 hu]; rfl))
              try (case ca853 => unfold maxLen; omega)
              try (case ca854 => omega)
              intro v' wq81 ff
              obtain ⟨f1, f2, f3, f4⟩ := ff.out
              obtain ⟨va83, vc84, rfl⟩ := f4
              have HQ82 : Hid (ByS w BK b 5 [.int .u8 (m : Int)] (.slice la k lc) k 1 ([] ++ [(.slice va83 (k + 1) vc84, k + 1)]) [(X79, 2), (X2, 1)] wq81) := HQ80.out.app f1 f2 f3
              clear ff f1 f2 f3 HQ80
              (try go_wp2)
              refine ⟨rfl, hK _ _ (fun _ => by have := HQ82.out.bk.c0; rw [HBV.out] at this; exact this) ?_⟩
              clear hK K
              refine MixJ.many [14, 19] 7 (by kernel_rfl) (by decide) (by kernel_rfl) ?_
              intro i hi
              simp only [List.mem_cons, List.not_mem_nil, or_false] at hi
              rcases hi with rfl | rfl
              · refine ⟨_, rfl, fun K hK => ?_⟩
                go_wp2_with (first | (at_builtin; refine append_fy rfl (.tmp 34) (.tmp 37) 22 rfl 0 5 i0 _ 1 [.int .u8 (m : Int)] Nat.zero_lt_one Try.underlying22 hi0 hz0 hz1 hz2 rfl (.slice la k lc) k 1 [(.slice va83 (k + 1) vc84, k + 1)] rfl HQ82.out.fy ⟨X79, 0, none⟩ 2 2 rfl (by decide) ?ca901 ?ca902 ?ca903 ?ca904 (Nat.zero_le _) ?_))
                try (case ca901 => exact HQ82.out.news (by simp))
                try (case ca902 => first | rfl | (intro u hu; rw [List.mem_singleton.1 hu]; rfl))
                try (case ca903 => unfold maxLen; omega)
                try (case ca904 => omega)
                intro v' wq86 ff
                obtain ⟨f1, f2, f3, f4⟩ := ff.out
                obtain ⟨va88, vc89, rfl⟩ := f4
                have HQ87 : Hid (ByS w BK b 5 [.int .u8 (m : Int)] (.slice la k lc) k 2 ([(.slice va83 (k + 1) vc84, k + 1)] ++ [(.slice va88 (k + 2) vc89, k + 2)]) [(X79, 2), (X2, 1)] wq86) := HQ82.out.app f1 f2 f3
                clear ff f1 f2 f3 HQ82
                (try go_wp2)
                refine ⟨rfl, hK _ _ (fun _ => by have := HQ87.out.bk.c0; rw [HBV.out] at this; exact this) ?_⟩
                clear hK K
                refine MixJ.many [19] 6 (by kernel_rfl) (by decide) (by kernel_rfl) ?_
                intro i hi
                simp only [List.mem_cons, List.not_mem_nil, or_false] at hi
                subst hi
                refine ⟨_, rfl, fun K hK => ?_⟩
                go_wp2
                obtain ⟨wq91, hwq91⟩ : ∃ x, x = wq86.alloc (.cells #[.int .u8 (m : Int), .int .u8 (m : Int), .int .u8 (m : Int)] 5) := ⟨_, rfl⟩
                obtain ⟨X92, hX92⟩ : ∃ x, x = wq86.heap.size := ⟨_, rfl⟩
                have HQ93 : Hid (ByS w BK b 5 [.int .u8 (m : Int)] (.slice la k lc) k 2 [(.slice va83 (k + 1) vc84, k + 1), (.slice va88 (k + 2) vc89, k + 2)] ((X92, 3) :: [(X79, 2), (X2, 1)]) wq91) := by
                  rw [hwq91, hX92]
                  exact HQ87.out.new 3 #[.int .u8 (m : Int), .int .u8 (m : Int), .int .u8 (m : Int)] 5 rfl
                rw [← hwq91, ← hX92]
                clear hwq91 hX92 HQ87
                refine ⟨rfl, hK _ _ (fun _ => by have := HQ93.out.bk.c0; rw [HBV.out] at this; exact this) ?_⟩
                clear hK K
                refine MixJ.many [20] 5 (by kernel_rfl) (by decide) (by kernel_rfl) ?_
                intro i hi
                simp only [List.mem_cons, List.not_mem_nil, or_false] at hi
                subst hi
                refine ⟨_, rfl, fun K hK => ?_⟩
                go_wp2_with (first | (at_builtin; refine append_fy rfl (.tmp 39) (.tmp 43) 22 rfl 0 5 i0 _ 1 [.int .u8 (m : Int)] Nat.zero_lt_one Try.underlying22 hi0 hz0 hz1 hz2 rfl (.slice la k lc) k 2 [(.slice va83 (k + 1) vc84, k + 1), (.slice va88 (k + 2) vc89, k + 2)] rfl HQ93.out.fy ⟨X92, 0, none⟩ 3 3 rfl (by decide) ?ca981 ?ca982 ?ca983 ?ca984 (Nat.zero_le _) ?_))
                try (case ca981 => exact HQ93.out.news (by simp))
                try (case ca982 => first | rfl | (intro u hu; rw [List.mem_singleton.1 hu]; rfl))
                try (case ca983 => unfold maxLen; omega)
                try (case ca984 => omega)
                intro v' wq94 ff
                obtain ⟨f1, f2, f3, f4⟩ := ff.out
                obtain ⟨va96, vc97, rfl⟩ := f4
                have HQ95 : Hid (ByS w BK b 5 [.int .u8 (m : Int)] (.slice la k lc) k 3 ([(.slice va83 (k + 1) vc84, k + 1), (.slice va88 (k + 2) vc89, k + 2)] ++ [(.slice va96 (k + 3) vc97, k + 3)]) [(X92, 3), (X79, 2), (X2, 1)] wq94) := HQ93.out.app f1 f2 f3
                clear ff f1 f2 f3 HQ93
                (try go_wp2)
                refine ⟨rfl, hK _ _ (fun _ => by have := HQ95.out.bk.c0; rw [HBV.out] at this; exact this) ?_⟩
                clear hK K
                refine MixJ.many [21] 4 (by kernel_rfl) (by decide) (by kernel_rfl) ?_
                intro i hi
                simp only [List.mem_cons, List.not_mem_nil, or_false] at hi
                subst hi
                refine ⟨_, rfl, fun K hK => ?_⟩
                go_wp2
                have hN4 := fourW wq94 (.slice la k lc) (.slice va83 (k + 1) vc84) (.slice va88 (k + 2) vc89) (.slice va96 (k + 3) vc97) 22
                obtain ⟨wq99, hwq99⟩ : ∃ x, x = wq94.alloc (.cells #[.slice la k lc, .slice va83 (k + 1) vc84, .slice va88 (k + 2) vc89, .slice va96 (k + 3) vc97] 22) := ⟨_, rfl⟩
                obtain ⟨X100, hX100⟩ : ∃ x, x = wq94.heap.size := ⟨_, rfl⟩
                have HQ101 : Hid (ByS w BK b 5 [.int .u8 (m : Int)] (.slice la k lc) k 3 [(.slice va83 (k + 1) vc84, k + 1), (.slice va88 (k + 2) vc89, k + 2), (.slice va96 (k + 3) vc97, k + 3)] [] wq99) := by
                  rw [hwq99]
                  exact (HQ95.out.weak (A' := []) (fun r hr => hr) (fun p hp => by simp at hp)).below ((Below.refl _ _).alloc (Nat.le_refl _) _)
                rw [← hwq99, ← hX100] at hN4
                have HN102 : Hid (∀ j u, ([.slice la k lc, .slice va83 (k + 1) vc84, .slice va88 (k + 2) vc89, .slice va96 (k + 3) vc97] : List Value)[j]? = some u → wq99.cell? ((⟨X100, 0, none⟩ : Addr).add j) = some u) := hN4
                rw [← hwq99, ← hX100]
                clear hwq99 hX100 HQ95 hN4
                refine ⟨rfl, hK _ _ (fun _ => by have := HQ101.out.bk.c0; rw [HBV.out] at this; exact this) ?_⟩
                clear hK K
                refine MixJ.many [22] 3 (by kernel_rfl) (by decide) (by kernel_rfl) ?_
                intro i hi
                simp only [List.mem_cons, List.not_mem_nil, or_false] at hi
                subst hi
                refine ⟨_, rfl, fun K hK => ?_⟩
                have hob := HQ101.out.bk.ob
                rw [HBV.out, HEN.out] at hob
                go_wp2_with (first | (at_builtin; refine wpList_append_own_at _ rfl (.tmp 28) (.tmp 45) 62 rfl 0 22 i1 _ 1 24 Try.underlying62 hi1 hy0 hy1 hy2 rfl (by decide) _ _ _ rfl hob ⟨X100, 0, none⟩ 4 4 [.slice la k lc, .slice va83 (k + 1) vc84, .slice va88 (k + 2) vc89, .slice va96 (k + 3) vc97] rfl rfl ?ca1041 ?ca1042 ?ca1043 ?ca1044 ?ca1045 ?_))
                try (case ca1041 => exact HN102.out)
                try (case ca1042 => first | exact ⟨rfl, rfl, rfl, rfl⟩ | (intro u hu; simp only [List.mem_cons, List.not_mem_nil, or_false] at hu; rcases hu with rfl | rfl | rfl | rfl <;> rfl))
                try (case ca1043 => unfold maxLen; omega)
                try (case ca1044 => omega)
                try (case ca1045 => exact Nat.zero_le _)
                intro u5 wq103 r1 r2 _ r4
                obtain ⟨ua105, uc106, hu5⟩ := owns_shape r1
                subst hu5
                have cc : Ch (fun q => b.hb.ownBlock = some q) wq99 wq103 := (Ch.ofGrown r2).mono (fun x _ q => by rw [HBV.out]; exact q)
                have cK0 : wq103.cell? ⟨BK, 0, none⟩ = some (.slice ba N bc) := by
                  have := cc.cell HQ101.out.bk.c0 (fun e => HQ101.out.bk.nK BK (.inl e) rfl)
                  rw [HBV.out] at this
                  exact this
                have fK0 : wq103.frozen? ⟨BK, 0, none⟩ = false := (cc.frozen (p := ⟨BK, 0, none⟩) (HQ101.out.bk.lt BK (.inl rfl)) (fun e => HQ101.out.bk.nK BK (.inl e) rfl)).trans (HQ101.out.bk.fz 0)
                have HR : Hid (RESB w BK b la lc k m (wq103.setCell ⟨BK, 0, none⟩ (.slice ua105 (N + 4) uc106))) := by
                  have hrr := res_bytes HQ101.out HLT.out HBV.out HEN.out [(.slice la k lc, k), (.slice va83 (k + 1) vc84, k + 1), (.slice va88 (k + 2) vc89, k + 2), (.slice va96 (k + 3) vc97, k + 3)] (by intro r hr; simp only [List.mem_cons, List.not_mem_nil, or_false] at hr; rcases hr with rfl | rfl | rfl | rfl <;> simp) r1 r2 r4
                  exact ⟨_, [(.slice la k lc, k), (.slice va83 (k + 1) vc84, k + 1), (.slice va88 (k + 2) vc89, k + 2), (.slice va96 (k + 3) vc97, k + 3)], hrr, rfl, by intro r hr; rw [List.mem_map] at hr; obtain ⟨y, _, rfl⟩ := hr; rfl⟩
                clear r1 r2 r4 cc HN102 hob HQ101
                (try go_wp2)
                refine ⟨rfl, hK _ _ (fun _ => cK0) ?_⟩
                clear hK K
                refine MixJ.many [23] 2 (by kernel_rfl) (by decide) (by kernel_rfl) ?_
                intro i hi
                simp only [List.mem_cons, List.not_mem_nil, or_false] at hi
                subst hi
                refine ⟨_, rfl, fun K hK => ?_⟩
                go_wp2
                refine ⟨rfl, hK _ _ (fun _ => cK0) ?_⟩
                clear hK K
                refine MixJ.many [24] 1 (by kernel_rfl) (by decide) (by kernel_rfl) ?_
                intro i hi
                simp only [List.mem_cons, List.not_mem_nil, or_false] at hi
                subst hi
                refine ⟨_, rfl, fun K hK => ?_⟩
                go_wp2
                refine ⟨rfl, hK _ _ (fun _ => cK0) ?_⟩
                clear hK K
                refine MixJ.many [25] 0 (by kernel_rfl) (by decide) (by kernel_rfl) ?_
                intro i hi
                simp only [List.mem_cons, List.not_mem_nil, or_false] at hi
                subst hi
                refine ⟨_, rfl, fun K hK => ?_⟩
                go_wp2
                refine ⟨rfl, hK _ _ (fun q => absurd rfl q) ?_⟩
                clear hK K
                refine MixJ.done (by kernel_rfl) ?_
                go_wp2
                go_meet
                exact HR
              · refine ⟨_, rfl, fun K hK => ?_⟩
                go_wp2
                obtain ⟨wq107, hwq107⟩ : ∃ x, x = wq81.alloc (.cells #[.int .u8 (m : Int), .int .u8 (m : Int), .int .u8 (m : Int)] 5) := ⟨_, rfl⟩
                obtain ⟨X108, hX108⟩ : ∃ x, x = wq81.heap.size := ⟨_, rfl⟩
                have HQ109 : Hid (ByS w BK b 5 [.int .u8 (m : Int)] (.slice la k lc) k 1 [(.slice va83 (k + 1) vc84, k + 1)] ((X108, 3) :: [(X79, 2), (X2, 1)]) wq107) := by
                  rw [hwq107, hX108]
                  exact HQ82.out.new 3 #[.int .u8 (m : Int), .int .u8 (m : Int), .int .u8 (m : Int)] 5 rfl
                rw [← hwq107, ← hX108]
                clear hwq107 hX108 HQ82
                refine ⟨rfl, hK _ _ (fun _ => by have := HQ109.out.bk.c0; rw [HBV.out] at this; exact this) ?_⟩
                clear hK K
                refine MixJ.many [14] 6 (by kernel_rfl) (by decide) (by kernel_rfl) ?_
                intro i hi
                simp only [List.mem_cons, List.not_mem_nil, or_false] at hi
                subst hi
                refine ⟨_, rfl, fun K hK => ?_⟩
                go_wp2_with (first | (at_builtin; refine append_fy rfl (.tmp 34) (.tmp 37) 22 rfl 0 5 i0 _ 1 [.int .u8 (m : Int)] Nat.zero_lt_one Try.underlying22 hi0 hz0 hz1 hz2 rfl (.slice la k lc) k 1 [(.slice va83 (k + 1) vc84, k + 1)] rfl HQ109.out.fy ⟨X79, 0, none⟩ 2 2 rfl (by decide) ?ca1141 ?ca1142 ?ca1143 ?ca1144 (Nat.zero_le _) ?_))
                try (case ca1141 => exact HQ109.out.news (by simp))
                try (case ca1142 => first | rfl | (intro u hu; rw [List.mem_singleton.1 hu]; rfl))
                try (case ca1143 => unfold maxLen; omega)
                try (case ca1144 => omega)
                intro v' wq110 ff
                obtain ⟨f1, f2, f3, f4⟩ := ff.out
                obtain ⟨va112, vc113, rfl⟩ := f4
                have HQ111 : Hid (ByS w BK b 5 [.int .u8 (m : Int)] (.slice la k lc) k 2 ([(.slice va83 (k + 1) vc84, k + 1)] ++ [(.slice va112 (k + 2) vc113, k + 2)]) [(X108, 3), (X79, 2), (X2, 1)] wq110) := HQ109.out.app f1 f2 f3
                clear ff f1 f2 f3 HQ109
                (try go_wp2)
                refine ⟨rfl, hK _ _ (fun _ => by have := HQ111.out.bk.c0; rw [HBV.out] at this; exact this) ?_⟩
                clear hK K
                refine MixJ.many [20] 5 (by kernel_rfl) (by decide) (by kernel_rfl) ?_
                intro i hi
                simp only [List.mem_cons, List.not_mem_nil, or_false] at hi
                subst hi
                refine ⟨_, rfl, fun K hK => ?_⟩
                go_wp2_with (first | (at_builtin; refine append_fy rfl (.tmp 39) (.tmp 43) 22 rfl 0 5 i0 _ 1 [.int .u8 (m : Int)] Nat.zero_lt_one Try.underlying22 hi0 hz0 hz1 hz2 rfl (.slice la k lc) k 2 [(.slice va83 (k + 1) vc84, k + 1), (.slice va112 (k + 2) vc113, k + 2)] rfl HQ111.out.fy ⟨X108, 0, none⟩ 3 3 rfl (by decide) ?ca1191 ?ca1192 ?ca1193 ?ca1194 (Nat.zero_le _) ?_))
                try (case ca1191 => exact HQ111.out.news (by simp))
                try (case ca1192 => first | rfl | (intro u hu; rw [List.mem_singleton.1 hu]; rfl))
                try (case ca1193 => unfold maxLen; omega)
                try (case ca1194 => omega)
                intro v' wq115 ff
                obtain ⟨f1, f2, f3, f4⟩ := ff.out
                obtain ⟨va117, vc118, rfl⟩ := f4
                have HQ116 : Hid (ByS w BK b 5 [.int .u8 (m : Int)] (.slice la k lc) k 3 ([(.slice va83 (k + 1) vc84, k + 1), (.slice va112 (k + 2) vc113, k + 2)] ++ [(.slice va117 (k + 3) vc118, k + 3)]) [(X108, 3), (X79, 2), (X2, 1)] wq115) := HQ111.out.app f1 f2 f3
                clear ff f1 f2 f3 HQ111
                (try go_wp2)
                refine ⟨rfl, hK _ _ (fun _ => by have := HQ116.out.bk.c0; rw [HBV.out] at this; exact this) ?_⟩
                clear hK K
                refine MixJ.many [21] 4 (by kernel_rfl) (by decide) (by kernel_rfl) ?_
                intro i hi
                simp only [List.mem_cons, List.not_mem_nil, or_false] at hi
                subst hi
                refine ⟨_, rfl, fun K hK => ?_⟩
                go_wp2
                have hN4 := fourW wq115 (.slice la k lc) (.slice va83 (k + 1) vc84) (.slice va112 (k + 2) vc113) (.slice va117 (k + 3) vc118) 22
                obtain ⟨wq120, hwq120⟩ : ∃ x, x = wq115.alloc (.cells #[.slice la k lc, .slice va83 (k + 1) vc84, .slice va112 (k + 2) vc113, .slice va117 (k + 3) vc118] 22) := ⟨_, rfl⟩
                obtain ⟨X121, hX121⟩ : ∃ x, x = wq115.heap.size := ⟨_, rfl⟩
                have HQ122 : Hid (ByS w BK b 5 [.int .u8 (m : Int)] (.slice la k lc) k 3 [(.slice va83 (k + 1) vc84, k + 1), (.slice va112 (k + 2) vc113, k + 2), (.slice va117 (k + 3) vc118, k + 3)] [] wq120) := by
                  rw [hwq120]
                  exact (HQ116.out.weak (A' := []) (fun r hr => hr) (fun p hp => by simp at hp)).below ((Below.refl _ _).alloc (Nat.le_refl _) _)
                rw [← hwq120, ← hX121] at hN4
                have HN123 : Hid (∀ j u, ([.slice la k lc, .slice va83 (k + 1) vc84, .slice va112 (k + 2) vc113, .slice va117 (k + 3) vc118] : List Value)[j]? = some u → wq120.cell? ((⟨X121, 0, none⟩ : Addr).add j) = some u) := hN4
                rw [← hwq120, ← hX121]
                clear hwq120 hX121 HQ116 hN4
                refine ⟨rfl, hK _ _ (fun _ => by have := HQ122.out.bk.c0; rw [HBV.out] at this; exact this) ?_⟩
                clear hK K
                refine MixJ.many [22] 3 (by kernel_rfl) (by decide) (by kernel_rfl) ?_
                intro i hi
                simp only [List.mem_cons, List.not_mem_nil, or_false] at hi
                subst hi
                refine ⟨_, rfl, fun K hK => ?_⟩
                have hob := HQ122.out.bk.ob
                rw [HBV.out, HEN.out] at hob
                go_wp2_with (first | (at_builtin; refine wpList_append_own_at _ rfl (.tmp 28) (.tmp 45) 62 rfl 0 22 i1 _ 1 24 Try.underlying62 hi1 hy0 hy1 hy2 rfl (by decide) _ _ _ rfl hob ⟨X121, 0, none⟩ 4 4 [.slice la k lc, .slice va83 (k + 1) vc84, .slice va112 (k + 2) vc113, .slice va117 (k + 3) vc118] rfl rfl ?ca1251 ?ca1252 ?ca1253 ?ca1254 ?ca1255 ?_))
                try (case ca1251 => exact HN123.out)
                try (case ca1252 => first | exact ⟨rfl, rfl, rfl, rfl⟩ | (intro u hu; simp only [List.mem_cons, List.not_mem_nil, or_false] at hu; rcases hu with rfl | rfl | rfl | rfl <;> rfl))
                try (case ca1253 => unfold maxLen; omega)
                try (case ca1254 => omega)
                try (case ca1255 => exact Nat.zero_le _)
                intro u5 wq124 r1 r2 _ r4
                obtain ⟨ua126, uc127, hu5⟩ := owns_shape r1
                subst hu5
                have cc : Ch (fun q => b.hb.ownBlock = some q) wq120 wq124 := (Ch.ofGrown r2).mono (fun x _ q => by rw [HBV.out]; exact q)
                have cK0 : wq124.cell? ⟨BK, 0, none⟩ = some (.slice ba N bc) := by
                  have := cc.cell HQ122.out.bk.c0 (fun e => HQ122.out.bk.nK BK (.inl e) rfl)
                  rw [HBV.out] at this
                  exact this
                have fK0 : wq124.frozen? ⟨BK, 0, none⟩ = false := (cc.frozen (p := ⟨BK, 0, none⟩) (HQ122.out.bk.lt BK (.inl rfl)) (fun e => HQ122.out.bk.nK BK (.inl e) rfl)).trans (HQ122.out.bk.fz 0)
                have HR : Hid (RESB w BK b la lc k m (wq124.setCell ⟨BK, 0, none⟩ (.slice ua126 (N + 4) uc127))) := by
                  have hrr := res_bytes HQ122.out HLT.out HBV.out HEN.out [(.slice la k lc, k), (.slice va83 (k + 1) vc84, k + 1), (.slice va112 (k + 2) vc113, k + 2), (.slice va117 (k + 3) vc118, k + 3)] (by intro r hr; simp only [List.mem_cons, List.not_mem_nil, or_false] at hr; rcases hr with rfl | rfl | rfl | rfl <;> simp) r1 r2 r4
                  exact ⟨_, [(.slice la k lc, k), (.slice va83 (k + 1) vc84, k + 1), (.slice va112 (k + 2) vc113, k + 2), (.slice va117 (k + 3) vc118, k + 3)], hrr, rfl, by intro r hr; rw [List.mem_map] at hr; obtain ⟨y, _, rfl⟩ := hr; rfl⟩
                clear r1 r2 r4 cc HN123 hob HQ122
                (try go_wp2)
                refine ⟨rfl, hK _ _ (fun _ => cK0) ?_⟩
                clear hK K
                refine MixJ.many [23] 2 (by kernel_rfl) (by decide) (by kernel_rfl) ?_
                intro i hi
                simp only [List.mem_cons, List.not_mem_nil, or_false] at hi
                subst hi
                refine ⟨_, rfl, fun K hK => ?_⟩
                go_wp2
                refine ⟨rfl, hK _ _ (fun _ => cK0) ?_⟩
                clear hK K
                refine MixJ.many [24] 1 (by kernel_rfl) (by decide) (by kernel_rfl) ?_
                intro i hi
                simp only [List.mem_cons, List.not_mem_nil, or_false] at hi
                subst hi
                refine ⟨_, rfl, fun K hK => ?_⟩
                go_wp2
                refine ⟨rfl, hK _ _ (fun _ => cK0) ?_⟩
                clear hK K
                refine MixJ.many [25] 0 (by kernel_rfl) (by decide) (by kernel_rfl) ?_
                intro i hi
                simp only [List.mem_cons, List.not_mem_nil, or_false] at hi
                subst hi
                refine ⟨_, rfl, fun K hK => ?_⟩
                go_wp2
                refine ⟨rfl, hK _ _ (fun q => absurd rfl q) ?_⟩
                clear hK K
                refine MixJ.done (by kernel_rfl) ?_
                go_wp2
                go_meet
                exact HR
            · refine ⟨_, rfl, fun K hK => ?_⟩
              go_wp2
              obtain ⟨wq128, hwq128⟩ : ∃ x, x = wq78.alloc (.cells #[.int .u8 (m : Int), .int .u8 (m : Int), .int .u8 (m : Int)] 5) := ⟨_, rfl⟩
              obtain ⟨X129, hX129⟩ : ∃ x, x = wq78.heap.size := ⟨_, rfl⟩
              have HQ130 : Hid (ByS w BK b 5 [.int .u8 (m : Int)] (.slice la k lc) k 0 [] ((X129, 3) :: [(X79, 2), (X2, 1)]) wq128) := by
                rw [hwq128, hX129]
                exact HQ80.out.new 3 #[.int .u8 (m : Int), .int .u8 (m : Int), .int .u8 (m : Int)] 5 rfl
              rw [← hwq128, ← hX129]
              clear hwq128 hX129 HQ80
              refine ⟨rfl, hK _ _ (fun _ => by have := HQ130.out.bk.c0; rw [HBV.out] at this; exact this) ?_⟩
              clear hK K
              refine MixJ.many [9] 7 (by kernel_rfl) (by decide) (by kernel_rfl) ?_
              intro i hi
              simp only [List.mem_cons, List.not_mem_nil, or_false] at hi
              subst hi
              refine ⟨_, rfl, fun K hK => ?_⟩
              go_wp2_with (first | (at_builtin; refine append_fy rfl (.tmp 30) (.tmp 32) 22 rfl 0 5 i0 _ 1 [.int .u8 (m : Int)] Nat.zero_lt_one Try.underlying22 hi0 hz0 hz1 hz2 rfl (.slice la k lc) k 0 [] rfl HQ130.out.fy ⟨X2, 0, none⟩ 1 1 rfl (by decide) ?ca1351 ?ca1352 ?ca1353 ?ca1354 (Nat.zero_le _) ?_))
              try (case ca1351 => exact HQ130.out.news (by simp))
              try (case ca1352 => first | rfl | (intro u hu; rw [List.mem_singleton.1 hu]; rfl))
              try (case ca1353 => unfold maxLen; omega)
              try (case ca1354 => omega)
              intro v' wq131 ff
              obtain ⟨f1, f2, f3, f4⟩ := ff.out
              obtain ⟨va133, vc134, rfl⟩ := f4
              have HQ132 : Hid (ByS w BK b 5 [.int .u8 (m : Int)] (.slice la k lc) k 1 ([] ++ [(.slice va133 (k + 1) vc134, k + 1)]) [(X129, 3), (X79, 2), (X2, 1)] wq131) := HQ130.out.app f1 f2 f3
              clear ff f1 f2 f3 HQ130
              (try go_wp2)
              refine ⟨rfl, hK _ _ (fun _ => by have := HQ132.out.bk.c0; rw [HBV.out] at this; exact this) ?_⟩
              clear hK K
              refine MixJ.many [14] 6 (by kernel_rfl) (by decide) (by kernel_rfl) ?_
              intro i hi
              simp only [List.mem_cons, List.not_mem_nil, or_false] at hi
              subst hi
              refine ⟨_, rfl, fun K hK => ?_⟩
              go_wp2_with (first | (at_builtin; refine append_fy rfl (.tmp 34) (.tmp 37) 22 rfl 0 5 i0 _ 1 [.int .u8 (m : Int)] Nat.zero_lt_one Try.underlying22 hi0 hz0 hz1 hz2 rfl (.slice la k lc) k 1 [(.slice va133 (k + 1) vc134, k + 1)] rfl HQ132.out.fy ⟨X79, 0, none⟩ 2 2 rfl (by decide) ?ca1401 ?ca1402 ?ca1403 ?ca1404 (Nat.zero_le _) ?_))
              try (case ca1401 => exact HQ132.out.news (by simp))
              try (case ca1402 => first | rfl | (intro u hu; rw [List.mem_singleton.1 hu]; rfl))
              try (case ca1403 => unfold maxLen; omega)
              try (case ca1404 => omega)
              intro v' wq136 ff
              obtain ⟨f1, f2, f3, f4⟩ := ff.out
              obtain ⟨va138, vc139, rfl⟩ := f4
              have HQ137 : Hid (ByS w BK b 5 [.int .u8 (m : Int)] (.slice la k lc) k 2 ([(.slice va133 (k + 1) vc134, k + 1)] ++ [(.slice va138 (k + 2) vc139, k + 2)]) [(X129, 3), (X79, 2), (X2, 1)] wq136) := HQ132.out.app f1 f2 f3
              clear ff f1 f2 f3 HQ132
              (try go_wp2)
              refine ⟨rfl, hK _ _ (fun _ => by have := HQ137.out.bk.c0; rw [HBV.out] at this; exact this) ?_⟩
              clear hK K
              refine MixJ.many [20] 5 (by kernel_rfl) (by decide) (by kernel_rfl) ?_
              intro i hi
              simp only [List.mem_cons, List.not_mem_nil, or_false] at hi
              subst hi
              refine ⟨_, rfl, fun K hK => ?_⟩
              go_wp2_with (first | (at_builtin; refine append_fy rfl (.tmp 39) (.tmp 43) 22 rfl 0 5 i0 _ 1 [.int .u8 (m : Int)] Nat.zero_lt_one Try.underlying22 hi0 hz0 hz1 hz2 rfl (.slice la k lc) k 2 [(.slice va133 (k + 1) vc134, k + 1), (.slice va138 (k + 2) vc139, k + 2)] rfl HQ137.out.fy ⟨X129, 0, none⟩ 3 3 rfl (by decide) ?ca1451 ?ca1452 ?ca1453 ?ca1454 (Nat.zero_le _) ?_))
              try (case ca1451 => exact HQ137.out.news (by simp))
              try (case ca1452 => first | rfl | (intro u hu; rw [List.mem_singleton.1 hu]; rfl))
              try (case ca1453 => unfold maxLen; omega)
              try (case ca1454 => omega)
              intro v' wq141 ff
              obtain ⟨f1, f2, f3, f4⟩ := ff.out
              obtain ⟨va143, vc144, rfl⟩ := f4
              have HQ142 : Hid (ByS w BK b 5 [.int .u8 (m : Int)] (.slice la k lc) k 3 ([(.slice va133 (k + 1) vc134, k + 1), (.slice va138 (k + 2) vc139, k + 2)] ++ [(.slice va143 (k + 3) vc144, k + 3)]) [(X129, 3), (X79, 2), (X2, 1)] wq141) := HQ137.out.app f1 f2 f3
              clear ff f1 f2 f3 HQ137
              (try go_wp2)
              refine ⟨rfl, hK _ _ (fun _ => by have := HQ142.out.bk.c0; rw [HBV.out] at this; exact this) ?_⟩
              clear hK K
              refine MixJ.many [21] 4 (by kernel_rfl) (by decide) (by kernel_rfl) ?_
              intro i hi
              simp only [List.mem_cons, List.not_mem_nil, or_false] at hi
              subst hi
              refine ⟨_, rfl, fun K hK => ?_⟩
              go_wp2
              have hN4 := fourW wq141 (.slice la k lc) (.slice va133 (k + 1) vc134) (.slice va138 (k + 2) vc139) (.slice va143 (k + 3) vc144) 22
              obtain ⟨wq146, hwq146⟩ : ∃ x, x = wq141.alloc (.cells #[.slice la k lc, .slice va133 (k + 1) vc134, .slice va138 (k + 2) vc139, .slice va143 (k + 3) vc144] 22) := ⟨_, rfl⟩
              obtain ⟨X147, hX147⟩ : ∃ x, x = wq141.heap.size := ⟨_, rfl⟩
              have HQ148 : Hid (ByS w BK b 5 [.int .u8 (m : Int)] (.slice la k lc) k 3 [(.slice va133 (k + 1) vc134, k + 1), (.slice va138 (k + 2) vc139, k + 2), (.slice va143 (k + 3) vc144, k + 3)] [] wq146) := by
                rw [hwq146]
                exact (HQ142.out.weak (A' := []) (fun r hr => hr) (fun p hp => by simp at hp)).below ((Below.refl _ _).alloc (Nat.le_refl _) _)
              rw [← hwq146, ← hX147] at hN4
              have HN149 : Hid (∀ j u, ([.slice la k lc, .slice va133 (k + 1) vc134, .slice va138 (k + 2) vc139, .slice va143 (k + 3) vc144] : List Value)[j]? = some u → wq146.cell? ((⟨X147, 0, none⟩ : Addr).add j) = some u) := hN4
              rw [← hwq146, ← hX147]
              clear hwq146 hX147 HQ142 hN4
              refine ⟨rfl, hK _ _ (fun _ => by have := HQ148.out.bk.c0; rw [HBV.out] at this; exact this) ?_⟩
              clear hK K
              refine MixJ.many [22] 3 (by kernel_rfl) (by decide) (by kernel_rfl) ?_
              intro i hi
              simp only [List.mem_cons, List.not_mem_nil, or_false] at hi
              subst hi
              refine ⟨_, rfl, fun K hK => ?_⟩
              have hob := HQ148.out.bk.ob
              rw [HBV.out, HEN.out] at hob
              go_wp2_with (first | (at_builtin; refine wpList_append_own_at _ rfl (.tmp 28) (.tmp 45) 62 rfl 0 22 i1 _ 1 24 Try.underlying62 hi1 hy0 hy1 hy2 rfl (by decide) _ _ _ rfl hob ⟨X147, 0, none⟩ 4 4 [.slice la k lc, .slice va133 (k + 1) vc134, .slice va138 (k + 2) vc139, .slice va143 (k + 3) vc144] rfl rfl ?ca1511 ?ca1512 ?ca1513 ?ca1514 ?ca1515 ?_))
              try (case ca1511 => exact HN149.out)
              try (case ca1512 => first | exact ⟨rfl, rfl, rfl, rfl⟩ | (intro u hu; simp only [List.mem_cons, List.not_mem_nil, or_false] at hu; rcases hu with rfl | rfl | rfl | rfl <;> rfl))
              try (case ca1513 => unfold maxLen; omega)
              try (case ca1514 => omega)
              try (case ca1515 => exact Nat.zero_le _)
              intro u5 wq150 r1 r2 _ r4
              obtain ⟨ua152, uc153, hu5⟩ := owns_shape r1
              subst hu5
              have cc : Ch (fun q => b.hb.ownBlock = some q) wq146 wq150 := (Ch.ofGrown r2).mono (fun x _ q => by rw [HBV.out]; exact q)
              have cK0 : wq150.cell? ⟨BK, 0, none⟩ = some (.slice ba N bc) := by
                have := cc.cell HQ148.out.bk.c0 (fun e => HQ148.out.bk.nK BK (.inl e) rfl)
                rw [HBV.out] at this
                exact this
              have fK0 : wq150.frozen? ⟨BK, 0, none⟩ = false := (cc.frozen (p := ⟨BK, 0, none⟩) (HQ148.out.bk.lt BK (.inl rfl)) (fun e => HQ148.out.bk.nK BK (.inl e) rfl)).trans (HQ148.out.bk.fz 0)
              have HR : Hid (RESB w BK b la lc k m (wq150.setCell ⟨BK, 0, none⟩ (.slice ua152 (N + 4) uc153))) := by
                have hrr := res_bytes HQ148.out HLT.out HBV.out HEN.out [(.slice la k lc, k), (.slice va133 (k + 1) vc134, k + 1), (.slice va138 (k + 2) vc139, k + 2), (.slice va143 (k + 3) vc144, k + 3)] (by intro r hr; simp only [List.mem_cons, List.not_mem_nil, or_false] at hr; rcases hr with rfl | rfl | rfl | rfl <;> simp) r1 r2 r4
                exact ⟨_, [(.slice la k lc, k), (.slice va133 (k + 1) vc134, k + 1), (.slice va138 (k + 2) vc139, k + 2), (.slice va143 (k + 3) vc144, k + 3)], hrr, rfl, by intro r hr; rw [List.mem_map] at hr; obtain ⟨y, _, rfl⟩ := hr; rfl⟩
              clear r1 r2 r4 cc HN149 hob HQ148
              (try go_wp2)
              refine ⟨rfl, hK _ _ (fun _ => cK0) ?_⟩
              clear hK K
              refine MixJ.many [23] 2 (by kernel_rfl) (by decide) (by kernel_rfl) ?_
              intro i hi
              simp only [List.mem_cons, List.not_mem_nil, or_false] at hi
              subst hi
              refine ⟨_, rfl, fun K hK => ?_⟩
              go_wp2
              refine ⟨rfl, hK _ _ (fun _ => cK0) ?_⟩
              clear hK K
              refine MixJ.many [24] 1 (by kernel_rfl) (by decide) (by kernel_rfl) ?_
              intro i hi
              simp only [List.mem_cons, List.not_mem_nil, or_false] at hi
              subst hi
              refine ⟨_, rfl, fun K hK => ?_⟩
              go_wp2
              refine ⟨rfl, hK _ _ (fun _ => cK0) ?_⟩
              clear hK K
              refine MixJ.many [25] 0 (by kernel_rfl) (by decide) (by kernel_rfl) ?_
              intro i hi
              simp only [List.mem_cons, List.not_mem_nil, or_false] at hi
              subst hi
              refine ⟨_, rfl, fun K hK => ?_⟩
              go_wp2
              refine ⟨rfl, hK _ _ (fun q => absurd rfl q) ?_⟩
              clear hK K
              refine MixJ.done (by kernel_rfl) ?_
              go_wp2
              go_meet
              exact HR
          · refine ⟨_, rfl, fun K hK => ?_⟩
            go_wp2
            obtain ⟨wq154, hwq154⟩ : ∃ x, x = wq1.alloc (.cells #[.int .u8 (m : Int), .int .u8 (m : Int), .int .u8 (m : Int)] 5) := ⟨_, rfl⟩
            obtain ⟨X155, hX155⟩ : ∃ x, x = wq1.heap.size := ⟨_, rfl⟩
            have HQ156 : Hid (ByS w BK b 5 [.int .u8 (m : Int)] (.slice la k lc) k 0 [] ((X155, 3) :: [(X2, 1)]) wq154) := by
              rw [hwq154, hX155]
              exact HQ3.out.new 3 #[.int .u8 (m : Int), .int .u8 (m : Int), .int .u8 (m : Int)] 5 rfl
            rw [← hwq154, ← hX155]
            clear hwq154 hX155 HQ3
            refine ⟨rfl, hK _ _ (fun _ => by have := HQ156.out.bk.c0; rw [HBV.out] at this; exact this) ?_⟩
            clear hK K
            refine MixJ.many [9, 13] 8 (by kernel_rfl) (by decide) (by kernel_rfl) ?_
            intro i hi
            simp only [List.mem_cons, List.not_mem_nil, or_false] at hi
            rcases hi with rfl | rfl
            · refine ⟨_, rfl, fun K hK => ?_⟩
              go_wp2_with (first | (at_builtin; refine append_fy rfl (.tmp 30) (.tmp 32) 22 rfl 0 5 i0 _ 1 [.int .u8 (m : Int)] Nat.zero_lt_one Try.underlying22 hi0 hz0 hz1 hz2 rfl (.slice la k lc) k 0 [] rfl HQ156.out.fy ⟨X2, 0, none⟩ 1 1 rfl (by decide) ?ca1611 ?ca1612 ?ca1613 ?ca1614 (Nat.zero_le _) ?_))
              try (case ca1611 => exact HQ156.out.news (by simp))
              try (case ca1612 => first | rfl | (intro u hu; rw [List.mem_singleton.1 hu]; rfl))
              try (case ca1613 => unfold maxLen; omega)
              try (case ca1614 => omega)
              intro v' wq157 ff
              obtain ⟨f1, f2, f3, f4⟩ := ff.out
              obtain ⟨va159, vc160, rfl⟩ := f4
              have HQ158 : Hid (ByS w BK b 5 [.int .u8 (m : Int)] (.slice la k lc) k 1 ([] ++ [(.slice va159 (k + 1) vc160, k + 1)]) [(X155, 3), (X2, 1)] wq157) := HQ156.out.app f1 f2 f3
              clear ff f1 f2 f3 HQ156
              (try go_wp2)
              refine ⟨rfl, hK _ _ (fun _ => by have := HQ158.out.bk.c0; rw [HBV.out] at this; exact this) ?_⟩
              clear hK K
              refine MixJ.many [13] 7 (by kernel_rfl) (by decide) (by kernel_rfl) ?_
              intro i hi
              simp only [List.mem_cons, List.not_mem_nil, or_false] at hi
              subst hi
              refine ⟨_, rfl, fun K hK => ?_⟩
              go_wp2
              obtain ⟨wq162, hwq162⟩ : ∃ x, x = wq157.alloc (.cells #[.int .u8 (m : Int), .int .u8 (m : Int)] 5) := ⟨_, rfl⟩
              obtain ⟨X163, hX163⟩ : ∃ x, x = wq157.heap.size := ⟨_, rfl⟩
              have HQ164 : Hid (ByS w BK b 5 [.int .u8 (m : Int)] (.slice la k lc) k 1 [(.slice va159 (k + 1) vc160, k + 1)] ((X163, 2) :: [(X155, 3), (X2, 1)]) wq162) := by
                rw [hwq162, hX163]
                exact HQ158.out.new 2 #[.int .u8 (m : Int), .int .u8 (m : Int)] 5 rfl
              rw [← hwq162, ← hX163]
              clear hwq162 hX163 HQ158
              refine ⟨rfl, hK _ _ (fun _ => by have := HQ164.out.bk.c0; rw [HBV.out] at this; exact this) ?_⟩
              clear hK K
              refine MixJ.many [14] 6 (by kernel_rfl) (by decide) (by kernel_rfl) ?_
              intro i hi
              simp only [List.mem_cons, List.not_mem_nil, or_false] at hi
              subst hi
              refine ⟨_, rfl, fun K hK => ?_⟩
              go_wp2_with (first | (at_builtin; refine append_fy rfl (.tmp 34) (.tmp 37) 22 rfl 0 5 i0 _ 1 [.int .u8 (m : Int)] Nat.zero_lt_one Try.underlying22 hi0 hz0 hz1 hz2 rfl (.slice la k lc) k 1 [(.slice va159 (k + 1) vc160, k + 1)] rfl HQ164.out.fy ⟨X163, 0, none⟩ 2 2 rfl (by decide) ?ca1691 ?ca1692 ?ca1693 ?ca1694 (Nat.zero_le _) ?_))
              try (case ca1691 => exact HQ164.out.news (by simp))
              try (case ca1692 => first | rfl | (intro u hu; rw [List.mem_singleton.1 hu]; rfl))
              try (case ca1693 => unfold maxLen; omega)
              try (case ca1694 => omega)
              intro v' wq165 ff
              obtain ⟨f1, f2, f3, f4⟩ := ff.out
              obtain ⟨va167, vc168, rfl⟩ := f4
              have HQ166 : Hid (ByS w BK b 5 [.int .u8 (m : Int)] (.slice la k lc) k 2 ([(.slice va159 (k + 1) vc160, k + 1)] ++ [(.slice va167 (k + 2) vc168, k + 2)]) [(X163, 2), (X155, 3), (X2, 1)] wq165) := HQ164.out.app f1 f2 f3
              clear ff f1 f2 f3 HQ164
              (try go_wp2)
              refine ⟨rfl, hK _ _ (fun _ => by have := HQ166.out.bk.c0; rw [HBV.out] at this; exact this) ?_⟩
              clear hK K
              refine MixJ.many [20] 5 (by kernel_rfl) (by decide) (by kernel_rfl) ?_
              intro i hi
              simp only [List.mem_cons, List.not_mem_nil, or_false] at hi
              subst hi
              refine ⟨_, rfl, fun K hK => ?_⟩
              go_wp2_with (first | (at_builtin; refine append_fy rfl (.tmp 39) (.tmp 43) 22 rfl 0 5 i0 _ 1 [.int .u8 (m : Int)] Nat.zero_lt_one Try.underlying22 hi0 hz0 hz1 hz2 rfl (.slice la k lc) k 2 [(.slice va159 (k + 1) vc160, k + 1), (.slice va167 (k + 2) vc168, k + 2)] rfl HQ166.out.fy ⟨X155, 0, none⟩ 3 3 rfl (by decide) ?ca1741 ?ca1742 ?ca1743 ?ca1744 (Nat.zero_le _) ?_))
              try (case ca1741 => exact HQ166.out.news (by simp))
              try (case ca1742 => first | rfl | (intro u hu; rw [List.mem_singleton.1 hu]; rfl))
              try (case ca1743 => unfold maxLen; omega)
              try (case ca1744 => omega)
              intro v' wq170 ff
              obtain ⟨f1, f2, f3, f4⟩ := ff.out
              obtain ⟨va172, vc173, rfl⟩ := f4
              have HQ171 : Hid (ByS w BK b 5 [.int .u8 (m : Int)] (.slice la k lc) k 3 ([(.slice va159 (k + 1) vc160, k + 1), (.slice va167 (k + 2) vc168, k + 2)] ++ [(.slice va172 (k + 3) vc173, k + 3)]) [(X163, 2), (X155, 3), (X2, 1)] wq170) := HQ166.out.app f1 f2 f3
              clear ff f1 f2 f3 HQ166
              (try go_wp2)
              refine ⟨rfl, hK _ _ (fun _ => by have := HQ171.out.bk.c0; rw [HBV.out] at this; exact this) ?_⟩
              clear hK K
              refine MixJ.many [21] 4 (by kernel_rfl) (by decide) (by kernel_rfl) ?_
              intro i hi
              simp only [List.mem_cons, List.not_mem_nil, or_false] at hi
              subst hi
              refine ⟨_, rfl, fun K hK => ?_⟩
              go_wp2
              have hN4 := fourW wq170 (.slice la k lc) (.slice va159 (k + 1) vc160) (.slice va167 (k + 2) vc168) (.slice va172 (k + 3) vc173) 22
              obtain ⟨wq175, hwq175⟩ : ∃ x, x = wq170.alloc (.cells #[.slice la k lc, .slice va159 (k + 1) vc160, .slice va167 (k + 2) vc168, .slice va172 (k + 3) vc173] 22) := ⟨_, rfl⟩
              obtain ⟨X176, hX176⟩ : ∃ x, x = wq170.heap.size := ⟨_, rfl⟩
              have HQ177 : Hid (ByS w BK b 5 [.int .u8 (m : Int)] (.slice la k lc) k 3 [(.slice va159 (k + 1) vc160, k + 1), (.slice va167 (k + 2) vc168, k + 2), (.slice va172 (k + 3) vc173, k + 3)] [] wq175) := by
                rw [hwq175]
                exact (HQ171.out.weak (A' := []) (fun r hr => hr) (fun p hp => by simp at hp)).below ((Below.refl _ _).alloc (Nat.le_refl _) _)
              rw [← hwq175, ← hX176] at hN4
              have HN178 : Hid (∀ j u, ([.slice la k lc, .slice va159 (k + 1) vc160, .slice va167 (k + 2) vc168, .slice va172 (k + 3) vc173] : List Value)[j]? = some u → wq175.cell? ((⟨X176, 0, none⟩ : Addr).add j) = some u) := hN4
              rw [← hwq175, ← hX176]
              clear hwq175 hX176 HQ171 hN4
              refine ⟨rfl, hK _ _ (fun _ => by have := HQ177.out.bk.c0; rw [HBV.out] at this; exact this) ?_⟩
              clear hK K
              refine MixJ.many [22] 3 (by kernel_rfl) (by decide) (by kernel_rfl) ?_
              intro i hi
              simp only [List.mem_cons, List.not_mem_nil, or_false] at hi
              subst hi
              refine ⟨_, rfl, fun K hK => ?_⟩
              have hob := HQ177.out.bk.ob
              rw [HBV.out, HEN.out] at hob
              go_wp2_with (first | (at_builtin; refine wpList_append_own_at _ rfl (.tmp 28) (.tmp 45) 62 rfl 0 22 i1 _ 1 24 Try.underlying62 hi1 hy0 hy1 hy2 rfl (by decide) _ _ _ rfl hob ⟨X176, 0, none⟩ 4 4 [.slice la k lc, .slice va159 (k + 1) vc160, .slice va167 (k + 2) vc168, .slice va172 (k + 3) vc173] rfl rfl ?ca1801 ?ca1802 ?ca1803 ?ca1804 ?ca1805 ?_))
              try (case ca1801 => exact HN178.out)
              try (case ca1802 => first | exact ⟨rfl, rfl, rfl, rfl⟩ | (intro u hu; simp only [List.mem_cons, List.not_mem_nil, or_false] at hu; rcases hu with rfl | rfl | rfl | rfl <;> rfl))
              try (case ca1803 => unfold maxLen; omega)
              try (case ca1804 => omega)
              try (case ca1805 => exact Nat.zero_le _)
              intro u5 wq179 r1 r2 _ r4
              obtain ⟨ua181, uc182, hu5⟩ := owns_shape r1
              subst hu5
              have cc : Ch (fun q => b.hb.ownBlock = some q) wq175 wq179 := (Ch.ofGrown r2).mono (fun x _ q => by rw [HBV.out]; exact q)
              have cK0 : wq179.cell? ⟨BK, 0, none⟩ = some (.slice ba N bc) := by
                have := cc.cell HQ177.out.bk.c0 (fun e => HQ177.out.bk.nK BK (.inl e) rfl)
                rw [HBV.out] at this
                exact this
              have fK0 : wq179.frozen? ⟨BK, 0, none⟩ = false := (cc.frozen (p := ⟨BK, 0, none⟩) (HQ177.out.bk.lt BK (.inl rfl)) (fun e => HQ177.out.bk.nK BK (.inl e) rfl)).trans (HQ177.out.bk.fz 0)
              have HR : Hid (RESB w BK b la lc k m (wq179.setCell ⟨BK, 0, none⟩ (.slice ua181 (N + 4) uc182))) := by
                have hrr := res_bytes HQ177.out HLT.out HBV.out HEN.out [(.slice la k lc, k), (.slice va159 (k + 1) vc160, k + 1), (.slice va167 (k + 2) vc168, k + 2), (.slice va172 (k + 3) vc173, k + 3)] (by intro r hr; simp only [List.mem_cons, List.not_mem_nil, or_false] at hr; rcases hr with rfl | rfl | rfl | rfl <;> simp) r1 r2 r4
                exact ⟨_, [(.slice la k lc, k), (.slice va159 (k + 1) vc160, k + 1), (.slice va167 (k + 2) vc168, k + 2), (.slice va172 (k + 3) vc173, k + 3)], hrr, rfl, by intro r hr; rw [List.mem_map] at hr; obtain ⟨y, _, rfl⟩ := hr; rfl⟩
              clear r1 r2 r4 cc HN178 hob HQ177
              (try go_wp2)
              refine ⟨rfl, hK _ _ (fun _ => cK0) ?_⟩
              clear hK K
              refine MixJ.many [23] 2 (by kernel_rfl) (by decide) (by kernel_rfl) ?_
              intro i hi
              simp only [List.mem_cons, List.not_mem_nil, or_false] at hi
              subst hi
              refine ⟨_, rfl, fun K hK => ?_⟩
              go_wp2
              refine ⟨rfl, hK _ _ (fun _ => cK0) ?_⟩
              clear hK K
              refine MixJ.many [24] 1 (by kernel_rfl) (by decide) (by kernel_rfl) ?_
              intro i hi
              simp only [List.mem_cons, List.not_mem_nil, or_false] at hi
              subst hi
              refine ⟨_, rfl, fun K hK => ?_⟩
              go_wp2
              refine ⟨rfl, hK _ _ (fun _ => cK0) ?_⟩
              clear hK K
              refine MixJ.many [25] 0 (by kernel_rfl) (by decide) (by kernel_rfl) ?_
              intro i hi
              simp only [List.mem_cons, List.not_mem_nil, or_false] at hi
              subst hi
              refine ⟨_, rfl, fun K hK => ?_⟩
              go_wp2
              refine ⟨rfl, hK _ _ (fun q => absurd rfl q) ?_⟩
              clear hK K
              refine MixJ.done (by kernel_rfl) ?_
              go_wp2
              go_meet
              exact HR
            · refine ⟨_, rfl, fun K hK => ?_⟩
              go_wp2
              obtain ⟨wq183, hwq183⟩ : ∃ x, x = wq154.alloc (.cells #[.int .u8 (m : Int), .int .u8 (m : Int)] 5) := ⟨_, rfl⟩
              obtain ⟨X184, hX184⟩ : ∃ x, x = wq154.heap.size := ⟨_, rfl⟩
              have HQ185 : Hid (ByS w BK b 5 [.int .u8 (m : Int)] (.slice la k lc) k 0 [] ((X184, 2) :: [(X155, 3), (X2, 1)]) wq183) := by
                rw [hwq183, hX184]
                exact HQ156.out.new 2 #[.int .u8 (m : Int), .int .u8 (m : Int)] 5 rfl
              rw [← hwq183, ← hX184]
              clear hwq183 hX184 HQ156
              refine ⟨rfl, hK _ _ (fun _ => by have := HQ185.out.bk.c0; rw [HBV.out] at this; exact this) ?_⟩
              clear hK K
              refine MixJ.many [9] 7 (by kernel_rfl) (by decide) (by kernel_rfl) ?_
              intro i hi
              simp only [List.mem_cons, List.not_mem_nil, or_false] at hi
              subst hi
              refine ⟨_, rfl, fun K hK => ?_⟩
              go_wp2_with (first | (at_builtin; refine append_fy rfl (.tmp 30) (.tmp 32) 22 rfl 0 5 i0 _ 1 [.int .u8 (m : Int)] Nat.zero_lt_one Try.underlying22 hi0 hz0 hz1 hz2 rfl (.slice la k lc) k 0 [] rfl HQ185.out.fy ⟨X2, 0, none⟩ 1 1 rfl (by decide) ?ca1901 ?ca1902 ?ca1903 ?ca1904 (Nat.zero_le _) ?_))
              try (case ca1901 => exact HQ185.out.news (by simp))
              try (case ca1902 => first | rfl | (intro u hu; rw [List.mem_singleton.1 hu]; rfl))
              try (case ca1903 => unfold maxLen; omega)
              try (case ca1904 => omega)
              intro v' wq186 ff
              obtain ⟨f1, f2, f3, f4⟩ := ff.out
              obtain ⟨va188, vc189, rfl⟩ := f4
              have HQ187 : Hid (ByS w BK b 5 [.int .u8 (m : Int)] (.slice la k lc) k 1 ([] ++ [(.slice va188 (k + 1) vc189, k + 1)]) [(X184, 2), (X155, 3), (X2, 1)] wq186) := HQ185.out.app f1 f2 f3
              clear ff f1 f2 f3 HQ185
              (try go_wp2)
              refine ⟨rfl, hK _ _ (fun _ => by have := HQ187.out.bk.c0; rw [HBV.out] at this; exact this) ?_⟩
              clear hK K
              refine MixJ.many [14] 6 (by kernel_rfl) (by decide) (by kernel_rfl) ?_
              intro i hi
              simp only [List.mem_cons, List.not_mem_nil, or_false] at hi
              subst hi
              refine ⟨_, rfl, fun K hK => ?_⟩
              go_wp2_with (first | (at_builtin; refine append_fy rfl (.tmp 34) (.tmp 37) 22 rfl 0 5 i0 _ 1 [.int .u8 (m : Int)] Nat.zero_lt_one Try.underlying22 hi0 hz0 hz1 hz2 rfl (.slice la k lc) k 1 [(.slice va188 (k + 1) vc189, k + 1)] rfl HQ187.out.fy ⟨X184, 0, none⟩ 2 2 rfl (by decide) ?ca1951 ?ca1952 ?ca1953 ?ca1954 (Nat.zero_le _) ?_))
              try (case ca1951 => exact HQ187.out.news (by simp))
              try (case ca1952 => first | rfl | (intro u hu; rw [List.mem_singleton.1 hu]; rfl))
              try (case ca1953 => unfold maxLen; omega)
              try (case ca1954 => omega)
              intro v' wq191 ff
              obtain ⟨f1, f2, f3, f4⟩ := ff.out
              obtain ⟨va193, vc194, rfl⟩ := f4
              have HQ192 : Hid (ByS w BK b 5 [.int .u8 (m : Int)] (.slice la k lc) k 2 ([(.slice va188 (k + 1) vc189, k + 1)] ++ [(.slice va193 (k + 2) vc194, k + 2)]) [(X184, 2), (X155, 3), (X2, 1)] wq191) := HQ187.out.app f1 f2 f3
              clear ff f1 f2 f3 HQ187
              (try go_wp2)
              refine ⟨rfl, hK _ _ (fun _ => by have := HQ192.out.bk.c0; rw [HBV.out] at this; exact this) ?_⟩
              clear hK K
              refine MixJ.many [20] 5 (by kernel_rfl) (by decide) (by kernel_rfl) ?_
              intro i hi
              simp only [List.mem_cons, List.not_mem_nil, or_false] at hi
              subst hi
              refine ⟨_, rfl, fun K hK => ?_⟩
              go_wp2_with (first | (at_builtin; refine append_fy rfl (.tmp 39) (.tmp 43) 22 rfl 0 5 i0 _ 1 [.int .u8 (m : Int)] Nat.zero_lt_one Try.underlying22 hi0 hz0 hz1 hz2 rfl (.slice la k lc) k 2 [(.slice va188 (k + 1) vc189, k + 1), (.slice va193 (k + 2) vc194, k + 2)] rfl HQ192.out.fy ⟨X155, 0, none⟩ 3 3 rfl (by decide) ?ca2001 ?ca2002 ?ca2003 ?ca2004 (Nat.zero_le _) ?_))
              try (case ca2001 => exact HQ192.out.news (by simp))
              try (case ca2002 => first | rfl | (intro u hu; rw [List.mem_singleton.1 hu]; rfl))
              try (case ca2003 => unfold maxLen; omega)
              try (case ca2004 => omega)
              intro v' wq196 ff
              obtain ⟨f1, f2, f3, f4⟩ := ff.out
              obtain ⟨va198, vc199, rfl⟩ := f4
              have HQ197 : Hid (ByS w BK b 5 [.int .u8 (m : Int)] (.slice la k lc) k 3 ([(.slice va188 (k + 1) vc189, k + 1), (.slice va193 (k + 2) vc194, k + 2)] ++ [(.slice va198 (k + 3) vc199, k + 3)]) [(X184, 2), (X155, 3), (X2, 1)] wq196) := HQ192.out.app f1 f2 f3
              clear ff f1 f2 f3 HQ192
              (try go_wp2)
              refine ⟨rfl, hK _ _ (fun _ => by have := HQ197.out.bk.c0; rw [HBV.out] at this; exact this) ?_⟩
              clear hK K
              refine MixJ.many [21] 4 (by kernel_rfl) (by decide) (by kernel_rfl) ?_
              intro i hi
              simp only [List.mem_cons, List.not_mem_nil, or_false] at hi
              subst hi
              refine ⟨_, rfl, fun K hK => ?_⟩
              go_wp2
              have hN4 := fourW wq196 (.slice la k lc) (.slice va188 (k + 1) vc189) (.slice va193 (k + 2) vc194) (.slice va198 (k + 3) vc199) 22
              obtain ⟨wq201, hwq201⟩ : ∃ x, x = wq196.alloc (.cells #[.slice la k lc, .slice va188 (k + 1) vc189, .slice va193 (k + 2) vc194, .slice va198 (k + 3) vc199] 22) := ⟨_, rfl⟩
              obtain ⟨X202, hX202⟩ : ∃ x, x = wq196.heap.size := ⟨_, rfl⟩
              have HQ203 : Hid (ByS w BK b 5 [.int .u8 (m : Int)] (.slice la k lc) k 3 [(.slice va188 (k + 1) vc189, k + 1), (.slice va193 (k + 2) vc194, k + 2), (.slice va198 (k + 3) vc199, k + 3)] [] wq201) := by
                rw [hwq201]
                exact (HQ197.out.weak (A' := []) (fun r hr => hr) (fun p hp => by simp at hp)).below ((Below.refl _ _).alloc (Nat.le_refl _) _)
              rw [← hwq201, ← hX202] at hN4
              have HN204 : Hid (∀ j u, ([.slice la k lc, .slice va188 (k + 1) vc189, .slice va193 (k + 2) vc194, .slice va198 (k + 3) vc199] : List Value)[j]? = some u → wq201.cell? ((⟨X202, 0, none⟩ : Addr).add j) = some u) := hN4
              rw [← hwq201, ← hX202]
              clear hwq201 hX202 HQ197 hN4
              refine ⟨rfl, hK _ _ (fun _ => by have := HQ203.out.bk.c0; rw [HBV.out] at this; exact this) ?_⟩
              clear hK K
              refine MixJ.many [22] 3 (by kernel_rfl) (by decide) (by kernel_rfl) ?_
              intro i hi
              simp only [List.mem_cons, List.not_mem_nil, or_false] at hi
              subst hi
              refine ⟨_, rfl, fun K hK => ?_⟩
              have hob := HQ203.out.bk.ob
              rw [HBV.out, HEN.out] at hob
              go_wp2_with (first | (at_builtin; refine wpList_append_own_at _ rfl (.tmp 28) (.tmp 45) 62 rfl 0 22 i1 _ 1 24 Try.underlying62 hi1 hy0 hy1 hy2 rfl (by decide) _ _ _ rfl hob ⟨X202, 0, none⟩ 4 4 [.slice la k lc, .slice va188 (k + 1) vc189, .slice va193 (k + 2) vc194, .slice va198 (k + 3) vc199] rfl rfl ?ca2061 ?ca2062 ?ca2063 ?ca2064 ?ca2065 ?_))
              try (case ca2061 => exact HN204.out)
              try (case ca2062 => first | exact ⟨rfl, rfl, rfl, rfl⟩ | (intro u hu; simp only [List.mem_cons, List.not_mem_nil, or_false] at hu; rcases hu with rfl | rfl | rfl | rfl <;> rfl))
              try (case ca2063 => unfold maxLen; omega)
              try (case ca2064 => omega)
              try (case ca2065 => exact Nat.zero_le _)
              intro u5 wq205 r1 r2 _ r4
              obtain ⟨ua207, uc208, hu5⟩ := owns_shape r1
              subst hu5
              have cc : Ch (fun q => b.hb.ownBlock = some q) wq201 wq205 := (Ch.ofGrown r2).mono (fun x _ q => by rw [HBV.out]; exact q)
              have cK0 : wq205.cell? ⟨BK, 0, none⟩ = some (.slice ba N bc) := by
                have := cc.cell HQ203.out.bk.c0 (fun e => HQ203.out.bk.nK BK (.inl e) rfl)
                rw [HBV.out] at this
                exact this
              have fK0 : wq205.frozen? ⟨BK, 0, none⟩ = false := (cc.frozen (p := ⟨BK, 0, none⟩) (HQ203.out.bk.lt BK (.inl rfl)) (fun e => HQ203.out.bk.nK BK (.inl e) rfl)).trans (HQ203.out.bk.fz 0)
              have HR : Hid (RESB w BK b la lc k m (wq205.setCell ⟨BK, 0, none⟩ (.slice ua207 (N + 4) uc208))) := by
                have hrr := res_bytes HQ203.out HLT.out HBV.out HEN.out [(.slice la k lc, k), (.slice va188 (k + 1) vc189, k + 1), (.slice va193 (k + 2) vc194, k + 2), (.slice va198 (k + 3) vc199, k + 3)] (by intro r hr; simp only [List.mem_cons, List.not_mem_nil, or_false] at hr; rcases hr with rfl | rfl | rfl | rfl <;> simp) r1 r2 r4
                exact ⟨_, [(.slice la k lc, k), (.slice va188 (k + 1) vc189, k + 1), (.slice va193 (k + 2) vc194, k + 2), (.slice va198 (k + 3) vc199, k + 3)], hrr, rfl, by intro r hr; rw [List.mem_map] at hr; obtain ⟨y, _, rfl⟩ := hr; rfl⟩
              clear r1 r2 r4 cc HN204 hob HQ203
              (try go_wp2)
              refine ⟨rfl, hK _ _ (fun _ => cK0) ?_⟩
              clear hK K
              refine MixJ.many [23] 2 (by kernel_rfl) (by decide) (by kernel_rfl) ?_
              intro i hi
              simp only [List.mem_cons, List.not_mem_nil, or_false] at hi
              subst hi
              refine ⟨_, rfl, fun K hK => ?_⟩
              go_wp2
              refine ⟨rfl, hK _ _ (fun _ => cK0) ?_⟩
              clear hK K
              refine MixJ.many [24] 1 (by kernel_rfl) (by decide) (by kernel_rfl) ?_
              intro i hi
              simp only [List.mem_cons, List.not_mem_nil, or_false] at hi
              subst hi
              refine ⟨_, rfl, fun K hK => ?_⟩
              go_wp2
              refine ⟨rfl, hK _ _ (fun _ => cK0) ?_⟩
              clear hK K
              refine MixJ.many [25] 0 (by kernel_rfl) (by decide) (by kernel_rfl) ?_
              intro i hi
              simp only [List.mem_cons, List.not_mem_nil, or_false] at hi
              subst hi
              refine ⟨_, rfl, fun K hK => ?_⟩
              go_wp2
              refine ⟨rfl, hK _ _ (fun q => absurd rfl q) ?_⟩
              clear hK K
              refine MixJ.done (by kernel_rfl) ?_
              go_wp2
              go_meet
              exact HR
        · refine ⟨_, rfl, fun K hK => ?_⟩
          go_wp2
          obtain ⟨wq209, hwq209⟩ : ∃ x, x = wA.alloc (.cells #[.int .u8 (m : Int), .int .u8 (m : Int)] 5) := ⟨_, rfl⟩
          obtain ⟨X210, hX210⟩ : ∃ x, x = wA.heap.size := ⟨_, rfl⟩
          have HQ211 : Hid (ByS w BK b 5 [.int .u8 (m : Int)] (.slice la k lc) k 0 [] ((X210, 2) :: []) wq209) := by
            rw [hwq209, hX210]
            exact H0.out.new 2 #[.int .u8 (m : Int), .int .u8 (m : Int)] 5 rfl
          rw [← hwq209, ← hX210]
          clear hwq209 hX210 H0
          refine ⟨rfl, hK _ _ (fun _ => by have := HQ211.out.bk.c0; rw [HBV.out] at this; exact this) ?_⟩
          clear hK K
          refine MixJ.many [8, 19] 9 (by kernel_rfl) (by decide) (by kernel_rfl) ?_
          intro i hi
          simp only [List.mem_cons, List.not_mem_nil, or_false] at hi
          rcases hi with rfl | rfl
          · refine ⟨_, rfl, fun K hK => ?_⟩
            go_wp2
            obtain ⟨wq212, hwq212⟩ : ∃ x, x = wq209.alloc (.cells #[.int .u8 (m : Int)] 5) := ⟨_, rfl⟩
            obtain ⟨X213, hX213⟩ : ∃ x, x = wq209.heap.size := ⟨_, rfl⟩
            have HQ214 : Hid (ByS w BK b 5 [.int .u8 (m : Int)] (.slice la k lc) k 0 [] ((X213, 1) :: [(X210, 2)]) wq212) := by
              rw [hwq212, hX213]
              exact HQ211.out.new 1 #[.int .u8 (m : Int)] 5 rfl
            rw [← hwq212, ← hX213]
            clear hwq212 hX213 HQ211
            refine ⟨rfl, hK _ _ (fun _ => by have := HQ214.out.bk.c0; rw [HBV.out] at this; exact this) ?_⟩
            clear hK K
            refine MixJ.many [9, 19] 8 (by kernel_rfl) (by decide) (by kernel_rfl) ?_
            intro i hi
            simp only [List.mem_cons, List.not_mem_nil, or_false] at hi
            rcases hi with rfl | rfl
            · refine ⟨_, rfl, fun K hK => ?_⟩
              go_wp2_with (first | (at_builtin; refine append_fy rfl (.tmp 30) (.tmp 32) 22 rfl 0 5 i0 _ 1 [.int .u8 (m : Int)] Nat.zero_lt_one Try.underlying22 hi0 hz0 hz1 hz2 rfl (.slice la k lc) k 0 [] rfl HQ214.out.fy ⟨X213, 0, none⟩ 1 1 rfl (by decide) ?ca2191 ?ca2192 ?ca2193 ?ca2194 (Nat.zero_le _) ?_))
              try (case ca2191 => exact HQ214.out.news (by simp))
              try (case ca2192 => first | rfl | (intro u hu; rw [List.mem_singleton.1 hu]; rfl))
              try (case ca2193 => unfold maxLen; omega)
              try (case ca2194 => omega)
              intro v' wq215 ff
              obtain ⟨f1, f2, f3, f4⟩ := ff.out
              obtain ⟨va217, vc218, rfl⟩ := f4
              have HQ216 : Hid (ByS w BK b 5 [.int .u8 (m : Int)] (.slice la k lc) k 1 ([] ++ [(.slice va217 (k + 1) vc218, k + 1)]) [(X213, 1), (X210, 2)] wq215) := HQ214.out.app f1 f2 f3
              clear ff f1 f2 f3 HQ214
              (try go_wp2)
              refine ⟨rfl, hK _ _ (fun _ => by have := HQ216.out.bk.c0; rw [HBV.out] at this; exact this) ?_⟩
              clear hK K
              refine MixJ.many [14, 19] 7 (by kernel_rfl) (by decide) (by kernel_rfl) ?_
              intro i hi
              simp only [List.mem_cons, List.not_mem_nil, or_false] at hi
              rcases hi with rfl | rfl
              · refine ⟨_, rfl, fun K hK => ?_⟩
                go_wp2_with (first | (at_builtin; refine append_fy rfl (.tmp 34) (.tmp 37) 22 rfl 0 5 i0 _ 1 [.int .u8 (m : Int)] Nat.zero_lt_one Try.underlying22 hi0 hz0 hz1 hz2 rfl (.slice la k lc) k 1 [(.slice va217 (k + 1) vc218, k + 1)] rfl HQ216.out.fy ⟨X210, 0, none⟩ 2 2 rfl (by decide) ?ca2241 ?ca2242 ?ca2243 ?ca2244 (Nat.zero_le _) ?_))
                try (case ca2241 => exact HQ216.out.news (by simp))
                try (case ca2242 => first | rfl | (intro u hu; rw [List.mem_singleton.1 hu]; rfl))
                try (case ca2243 => unfold maxLen; omega)
                try (case ca2244 => omega)
                intro v' wq220 ff
                obtain ⟨f1, f2, f3, f4⟩ := ff.out
                obtain ⟨va222, vc223, rfl⟩ := f4
                have HQ221 : Hid (ByS w BK b 5 [.int .u8 (m : Int)] (.slice la k lc) k 2 ([(.slice va217 (k + 1) vc218, k + 1)] ++ [(.slice va222 (k + 2) vc223, k + 2)]) [(X213, 1), (X210, 2)] wq220) := HQ216.out.app f1 f2 f3
                clear ff f1 f2 f3 HQ216
                (try go_wp2)
                refine ⟨rfl, hK _ _ (fun _ => by have := HQ221.out.bk.c0; rw [HBV.out] at this; exact this) ?_⟩
                clear hK K
                refine MixJ.many [19] 6 (by kernel_rfl) (by decide) (by kernel_rfl) ?_
                intro i hi
                simp only [List.mem_cons, List.not_mem_nil, or_false] at hi
                subst hi
                refine ⟨_, rfl, fun K hK => ?_⟩
                go_wp2
                obtain ⟨wq225, hwq225⟩ : ∃ x, x = wq220.alloc (.cells #[.int .u8 (m : Int), .int .u8 (m : Int), .int .u8 (m : Int)] 5) := ⟨_, rfl⟩
                obtain ⟨X226, hX226⟩ : ∃ x, x = wq220.heap.size := ⟨_, rfl⟩
                have HQ227 : Hid (ByS w BK b 5 [.int .u8 (m : Int)] (.slice la k lc) k 2 [(.slice va217 (k + 1) vc218, k + 1), (.slice va222 (k + 2) vc223, k + 2)] ((X226, 3) :: [(X213, 1), (X210, 2)]) wq225) := by
                  rw [hwq225, hX226]
                  exact HQ221.out.new 3 #[.int .u8 (m : Int), .int .u8 (m : Int), .int .u8 (m : Int)] 5 rfl
                rw [← hwq225, ← hX226]
                clear hwq225 hX226 HQ221
                refine ⟨rfl, hK _ _ (fun _ => by have := HQ227.out.bk.c0; rw [HBV.out] at this; exact this) ?_⟩
                clear hK K
                refine MixJ.many [20] 5 (by kernel_rfl) (by decide) (by kernel_rfl) ?_
                intro i hi
                simp only [List.mem_cons, List.not_mem_nil, or_false] at hi
                subst hi
                refine ⟨_, rfl, fun K hK => ?_⟩
                go_wp2_with (first | (at_builtin; refine append_fy rfl (.tmp 39) (.tmp 43) 22 rfl 0 5 i0 _ 1 [.int .u8 (m : Int)] Nat.zero_lt_one Try.underlying22 hi0 hz0 hz1 hz2 rfl (.slice la k lc) k 2 [(.slice va217 (k + 1) vc218, k + 1), (.slice va222 (k + 2) vc223, k + 2)] rfl HQ227.out.fy ⟨X226, 0, none⟩ 3 3 rfl (by decide) ?ca2321 ?ca2322 ?ca2323 ?ca2324 (Nat.zero_le _) ?_))
                try (case ca2321 => exact HQ227.out.news (by simp))
                try (case ca2322 => first | rfl | (intro u hu; rw [List.mem_singleton.1 hu]; rfl))
                try (case ca2323 => unfold maxLen; omega)
                try (case ca2324 => omega)
                intro v' wq228 ff
                obtain ⟨f1, f2, f3, f4⟩ := ff.out
                obtain ⟨va230, vc231, rfl⟩ := f4
                have HQ229 : Hid (ByS w BK b 5 [.int .u8 (m : Int)] (.slice la k lc) k 3 ([(.slice va217 (k + 1) vc218, k + 1), (.slice va222 (k + 2) vc223, k + 2)] ++ [(.slice va230 (k + 3) vc231, k + 3)]) [(X226, 3), (X213, 1), (X210, 2)] wq228) := HQ227.out.app f1 f2 f3
                clear ff f1 f2 f3 HQ227
                (try go_wp2)
                refine ⟨rfl, hK _ _ (fun _ => by have := HQ229.out.bk.c0; rw [HBV.out] at this; exact this) ?_⟩
                clear hK K
                refine MixJ.many [21] 4 (by kernel_rfl) (by decide) (by kernel_rfl) ?_
                intro i hi
                simp only [List.mem_cons, List.not_mem_nil, or_false] at hi
                subst hi
                refine ⟨_, rfl, fun K hK => ?_⟩
                go_wp2
                have hN4 := fourW wq228 (.slice la k lc) (.slice va217 (k + 1) vc218) (.slice va222 (k + 2) vc223) (.slice va230 (k + 3) vc231) 22
                obtain ⟨wq233, hwq233⟩ : ∃ x, x = wq228.alloc (.cells #[.slice la k lc, .slice va217 (k + 1) vc218, .slice va222 (k + 2) vc223, .slice va230 (k + 3) vc231] 22) := ⟨_, rfl⟩
                obtain ⟨X234, hX234⟩ : ∃ x, x = wq228.heap.size := ⟨_, rfl⟩
                have HQ235 : Hid (ByS w BK b 5 [.int .u8 (m : Int)] (.slice la k lc) k 3 [(.slice va217 (k + 1) vc218, k + 1), (.slice va222 (k + 2) vc223, k + 2), (.slice va230 (k + 3) vc231, k + 3)] [] wq233) := by
                  rw [hwq233]
                  exact (HQ229.out.weak (A' := []) (fun r hr => hr) (fun p hp => by simp at hp)).below ((Below.refl _ _).alloc (Nat.le_refl _) _)
                rw [← hwq233, ← hX234] at hN4
                have HN236 : Hid (∀ j u, ([.slice la k lc, .slice va217 (k + 1) vc218, .slice va222 (k + 2) vc223, .slice va230 (k + 3) vc231] : List Value)[j]? = some u → wq233.cell? ((⟨X234, 0, none⟩ : Addr).add j) = some u) := hN4
                rw [← hwq233, ← hX234]
                clear hwq233 hX234 HQ229 hN4
                refine ⟨rfl, hK _ _ (fun _ => by have := HQ235.out.bk.c0; rw [HBV.out] at this; exact this) ?_⟩
                clear hK K
                refine MixJ.many [22] 3 (by kernel_rfl) (by decide) (by kernel_rfl) ?_
                intro i hi
                simp only [List.mem_cons, List.not_mem_nil, or_false] at hi
                subst hi
                refine ⟨_, rfl, fun K hK => ?_⟩
                have hob := HQ235.out.bk.ob
                rw [HBV.out, HEN.out] at hob
                go_wp2_with (first | (at_builtin; refine wpList_append_own_at _ rfl (.tmp 28) (.tmp 45) 62 rfl 0 22 i1 _ 1 24 Try.underlying62 hi1 hy0 hy1 hy2 rfl (by decide) _ _ _ rfl hob ⟨X234, 0, none⟩ 4 4 [.slice la k lc, .slice va217 (k + 1) vc218, .slice va222 (k + 2) vc223, .slice va230 (k + 3) vc231] rfl rfl ?ca2381 ?ca2382 ?ca2383 ?ca2384 ?ca2385 ?_))
                try (case ca2381 => exact HN236.out)
                try (case ca2382 => first | exact ⟨rfl, rfl, rfl, rfl⟩ | (intro u hu; simp only [List.mem_cons, List.not_mem_nil, or_false] at hu; rcases hu with rfl | rfl | rfl | rfl <;> rfl))
                try (case ca2383 => unfold maxLen; omega)
                try (case ca2384 => omega)
                try (case ca2385 => exact Nat.zero_le _)
                intro u5 wq237 r1 r2 _ r4
                obtain ⟨ua239, uc240, hu5⟩ := owns_shape r1
                subst hu5
                have cc : Ch (fun q => b.hb.ownBlock = some q) wq233 wq237 := (Ch.ofGrown r2).mono (fun x _ q => by rw [HBV.out]; exact q)
                have cK0 : wq237.cell? ⟨BK, 0, none⟩ = some (.slice ba N bc) := by
                  have := cc.cell HQ235.out.bk.c0 (fun e => HQ235.out.bk.nK BK (.inl e) rfl)
                  rw [HBV.out] at this
                  exact this
                have fK0 : wq237.frozen? ⟨BK, 0, none⟩ = false := (cc.frozen (p := ⟨BK, 0, none⟩) (HQ235.out.bk.lt BK (.inl rfl)) (fun e => HQ235.out.bk.nK BK (.inl e) rfl)).trans (HQ235.out.bk.fz 0)
                have HR : Hid (RESB w BK b la lc k m (wq237.setCell ⟨BK, 0, none⟩ (.slice ua239 (N + 4) uc240))) := by
                  have hrr := res_bytes HQ235.out HLT.out HBV.out HEN.out [(.slice la k lc, k), (.slice va217 (k + 1) vc218, k + 1), (.slice va222 (k + 2) vc223, k + 2), (.slice va230 (k + 3) vc231, k + 3)] (by intro r hr; simp only [List.mem_cons, List.not_mem_nil, or_false] at hr; rcases hr with rfl | rfl | rfl | rfl <;> simp) r1 r2 r4
                  exact ⟨_, [(.slice la k lc, k), (.slice va217 (k + 1) vc218, k + 1), (.slice va222 (k + 2) vc223, k + 2), (.slice va230 (k + 3) vc231, k + 3)], hrr, rfl, by intro r hr; rw [List.mem_map] at hr; obtain ⟨y, _, rfl⟩ := hr; rfl⟩
                clear r1 r2 r4 cc HN236 hob HQ235
                (try go_wp2)
                refine ⟨rfl, hK _ _ (fun _ => cK0) ?_⟩
                clear hK K
                refine MixJ.many [23] 2 (by kernel_rfl) (by decide) (by kernel_rfl) ?_
                intro i hi
                simp only [List.mem_cons, List.not_mem_nil, or_false] at hi
                subst hi
                refine ⟨_, rfl, fun K hK => ?_⟩
                go_wp2
                refine ⟨rfl, hK _ _ (fun _ => cK0) ?_⟩
                clear hK K
                refine MixJ.many [24] 1 (by kernel_rfl) (by decide) (by kernel_rfl) ?_
                intro i hi
                simp only [List.mem_cons, List.not_mem_nil, or_false] at hi
                subst hi
                refine ⟨_, rfl, fun K hK => ?_⟩
                go_wp2
                refine ⟨rfl, hK _ _ (fun _ => cK0) ?_⟩
                clear hK K
                refine MixJ.many [25] 0 (by kernel_rfl) (by decide) (by kernel_rfl) ?_
                intro i hi
                simp only [List.mem_cons, List.not_mem_nil, or_false] at hi
                subst hi
                refine ⟨_, rfl, fun K hK => ?_⟩
                go_wp2
                refine ⟨rfl, hK _ _ (fun q => absurd rfl q) ?_⟩
                clear hK K
                refine MixJ.done (by kernel_rfl) ?_
                go_wp2
                go_meet
                exact HR
              · refine ⟨_, rfl, fun K hK => ?_⟩
                go_wp2
                obtain ⟨wq241, hwq241⟩ : ∃ x, x = wq215.alloc (.cells #[.int .u8 (m : Int), .int .u8 (m : Int), .int .u8 (m : Int)] 5) := ⟨_, rfl⟩
                obtain ⟨X242, hX242⟩ : ∃ x, x = wq215.heap.size := ⟨_, rfl⟩
                have HQ243 : Hid (ByS w BK b 5 [.int .u8 (m : Int)] (.slice la k lc) k 1 [(.slice va217 (k + 1) vc218, k + 1)] ((X242, 3) :: [(X213, 1), (X210, 2)]) wq241) := by
                  rw [hwq241, hX242]
                  exact HQ216.out.new 3 #[.int .u8 (m : Int), .int .u8 (m : Int), .int .u8 (m : Int)] 5 rfl
                rw [← hwq241, ← hX242]
                clear hwq241 hX242 HQ216
                refine ⟨rfl, hK _ _ (fun _ => by have := HQ243.out.bk.c0; rw [HBV.out] at this; exact this) ?_⟩
                clear hK K
                refine MixJ.many [14] 6 (by kernel_rfl) (by decide) (by kernel_rfl) ?_
                intro i hi
                simp only [List.mem_cons, List.not_mem_nil, or_false] at hi
                subst hi
                refine ⟨_, rfl, fun K hK => ?_⟩
                go_wp2_with (first | (at_builtin; refine append_fy rfl (.tmp 34) (.tmp 37) 22 rfl 0 5 i0 _ 1 [.int .u8 (m : Int)] Nat.zero_lt_one Try.underlying22 hi0 hz0 hz1 hz2 rfl (.slice la k lc) k 1 [(.slice va217 (k + 1) vc218, k + 1)] rfl HQ243.out.fy ⟨X210, 0, none⟩ 2 2 rfl (by decide) ?ca2481 ?ca2482 ?ca2483 ?ca2484 (Nat.zero_le _) ?_))
                try (case ca2481 => exact HQ243.out.news (by simp))
                try (case ca2482 => first | rfl | (intro u hu; rw [List.mem_singleton.1 hu]; rfl))
                try (case ca2483 => unfold maxLen; omega)
                try (case ca2484 => omega)
                intro v' wq244 ff
                obtain ⟨f1, f2, f3, f4⟩ := ff.out
                obtain ⟨va246, vc247, rfl⟩ := f4
                have HQ245 : Hid (ByS w BK b 5 [.int .u8 (m : Int)] (.slice la k lc) k 2 ([(.slice va217 (k + 1) vc218, k + 1)] ++ [(.slice va246 (k + 2) vc247, k + 2)]) [(X242, 3), (X213, 1), (X210, 2)] wq244) := HQ243.out.app f1 f2 f3
                clear ff f1 f2 f3 HQ243
                (try go_wp2)
                refine ⟨rfl, hK _ _ (fun _ => by have := HQ245.out.bk.c0; rw [HBV.out] at this; exact this) ?_⟩
                clear hK K
                refine MixJ.many [20] 5 (by kernel_rfl) (by decide) (by kernel_rfl) ?_
                intro i hi
                simp only [List.mem_cons, List.not_mem_nil, or_false] at hi
                subst hi
                refine ⟨_, rfl, fun K hK => ?_⟩
                go_wp2_with (first | (at_builtin; refine append_fy rfl (.tmp 39) (.tmp 43) 22 rfl 0 5 i0 _ 1 [.int .u8 (m : Int)] Nat.zero_lt_one Try.underlying22 hi0 hz0 hz1 hz2 rfl (.slice la k lc) k 2 [(.slice va217 (k + 1) vc218, k + 1), (.slice va246 (k + 2) vc247, k + 2)] rfl HQ245.out.fy ⟨X242, 0, none⟩ 3 3 rfl (by decide) ?ca2531 ?ca2532 ?ca2533 ?ca2534 (Nat.zero_le _) ?_))
                try (case ca2531 => exact HQ245.out.news (by simp))
                try (case ca2532 => first | rfl | (intro u hu; rw [List.mem_singleton.1 hu]; rfl))
                try (case ca2533 => unfold maxLen; omega)
                try (case ca2534 => omega)
                intro v' wq249 ff
                obtain ⟨f1, f2, f3, f4⟩ := ff.out
                obtain ⟨va251, vc252, rfl⟩ := f4
                have HQ250 : Hid (ByS w BK b 5 [.int .u8 (m : Int)] (.slice la k lc) k 3 ([(.slice va217 (k + 1) vc218, k + 1), (.slice va246 (k + 2) vc247, k + 2)] ++ [(.slice va251 (k + 3) vc252, k + 3)]) [(X242, 3), (X213, 1), (X210, 2)] wq249) := HQ245.out.app f1 f2 f3
                clear ff f1 f2 f3 HQ245
                (try go_wp2)
                refine ⟨rfl, hK _ _ (fun _ => by have := HQ250.out.bk.c0; rw [HBV.out] at this; exact this) ?_⟩
                clear hK K
                refine MixJ.many [21] 4 (by kernel_rfl) (by decide) (by kernel_rfl) ?_
                intro i hi
                simp only [List.mem_cons, List.not_mem_nil, or_false] at hi
                subst hi
                refine ⟨_, rfl, fun K hK => ?_⟩
                go_wp2
                have hN4 := fourW wq249 (.slice la k lc) (.slice va217 (k + 1) vc218) (.slice va246 (k + 2) vc247) (.slice va251 (k + 3) vc252) 22
                obtain ⟨wq254, hwq254⟩ : ∃ x, x = wq249.alloc (.cells #[.slice la k lc, .slice va217 (k + 1) vc218, .slice va246 (k + 2) vc247, .slice va251 (k + 3) vc252] 22) := ⟨_, rfl⟩
                obtain ⟨X255, hX255⟩ : ∃ x, x = wq249.heap.size := ⟨_, rfl⟩
                have HQ256 : Hid (ByS w BK b 5 [.int .u8 (m : Int)] (.slice la k lc) k 3 [(.slice va217 (k + 1) vc218, k + 1), (.slice va246 (k + 2) vc247, k + 2), (.slice va251 (k + 3) vc252, k + 3)] [] wq254) := by
                  rw [hwq254]
                  exact (HQ250.out.weak (A' := []) (fun r hr => hr) (fun p hp => by simp at hp)).below ((Below.refl _ _).alloc (Nat.le_refl _) _)
                rw [← hwq254, ← hX255] at hN4
                have HN257 : Hid (∀ j u, ([.slice la k lc, .slice va217 (k + 1) vc218, .slice va246 (k + 2) vc247, .slice va251 (k + 3) vc252] : List Value)[j]? = some u → wq254.cell? ((⟨X255, 0, none⟩ : Addr).add j) = some u) := hN4
                rw [← hwq254, ← hX255]
                clear hwq254 hX255 HQ250 hN4
                refine ⟨rfl, hK _ _ (fun _ => by have := HQ256.out.bk.c0; rw [HBV.out] at this; exact this) ?_⟩
                clear hK K
                refine MixJ.many [22] 3 (by kernel_rfl) (by decide) (by kernel_rfl) ?_
                intro i hi
                simp only [List.mem_cons, List.not_mem_nil, or_false] at hi
                subst hi
                refine ⟨_, rfl, fun K hK => ?_⟩
                have hob := HQ256.out.bk.ob
                rw [HBV.out, HEN.out] at hob
                go_wp2_with (first | (at_builtin; refine wpList_append_own_at _ rfl (.tmp 28) (.tmp 45) 62 rfl 0 22 i1 _ 1 24 Try.underlying62 hi1 hy0 hy1 hy2 rfl (by decide) _ _ _ rfl hob ⟨X255, 0, none⟩ 4 4 [.slice la k lc, .slice va217 (k + 1) vc218, .slice va246 (k + 2) vc247, .slice va251 (k + 3) vc252] rfl rfl ?ca2591 ?ca2592 ?ca2593 ?ca2594 ?ca2595 ?_))
                try (case ca2591 => exact HN257.out)
                try (case ca2592 => first | exact ⟨rfl, rfl, rfl, rfl⟩ | (intro u hu; simp only [List.mem_cons, List.not_mem_nil, or_false] at hu; rcases hu with rfl | rfl | rfl | rfl <;> rfl))
                try (case ca2593 => unfold maxLen; omega)
                try (case ca2594 => omega)
                try (case ca2595 => exact Nat.zero_le _)
                intro u5 wq258 r1 r2 _ r4
                obtain ⟨ua260, uc261, hu5⟩ := owns_shape r1
                subst hu5
                have cc : Ch (fun q => b.hb.ownBlock = some q) wq254 wq258 := (Ch.ofGrown r2).mono (fun x _ q => by rw [HBV.out]; exact q)
                have cK0 : wq258.cell? ⟨BK, 0, none⟩ = some (.slice ba N bc) := by
                  have := cc.cell HQ256.out.bk.c0 (fun e => HQ256.out.bk.nK BK (.inl e) rfl)
                  rw [HBV.out] at this
                  exact this
                have fK0 : wq258.frozen? ⟨BK, 0, none⟩ = false := (cc.frozen (p := ⟨BK, 0, none⟩) (HQ256.out.bk.lt BK (.inl rfl)) (fun e => HQ256.out.bk.nK BK (.inl e) rfl)).trans (HQ256.out.bk.fz 0)
                have HR : Hid (RESB w BK b la lc k m (wq258.setCell ⟨BK, 0, none⟩ (.slice ua260 (N + 4) uc261))) := by
                  have hrr := res_bytes HQ256.out HLT.out HBV.out HEN.out [(.slice la k lc, k), (.slice va217 (k + 1) vc218, k + 1), (.slice va246 (k + 2) vc247, k + 2), (.slice va251 (k + 3) vc252, k + 3)] (by intro r hr; simp only [List.mem_cons, List.not_mem_nil, or_false] at hr; rcases hr with rfl | rfl | rfl | rfl <;> simp) r1 r2 r4
                  exact ⟨_, [(.slice la k lc, k), (.slice va217 (k + 1) vc218, k + 1), (.slice va246 (k + 2) vc247, k + 2), (.slice va251 (k + 3) vc252, k + 3)], hrr, rfl, by intro r hr; rw [List.mem_map] at hr; obtain ⟨y, _, rfl⟩ := hr; rfl⟩
                clear r1 r2 r4 cc HN257 hob HQ256
                (try go_wp2)
                refine ⟨rfl, hK _ _ (fun _ => cK0) ?_⟩
                clear hK K
                refine MixJ.many [23] 2 (by kernel_rfl) (by decide) (by kernel_rfl) ?_
                intro i hi
                simp only [List.mem_cons, List.not_mem_nil, or_false] at hi
                subst hi
                refine ⟨_, rfl, fun K hK => ?_⟩
                go_wp2
                refine ⟨rfl, hK _ _ (fun _ => cK0) ?_⟩
                clear hK K
                refine MixJ.many [24] 1 (by kernel_rfl) (by decide) (by kernel_rfl) ?_
                intro i hi
                simp only [List.mem_cons, List.not_mem_nil, or_false] at hi
                subst hi
                refine ⟨_, rfl, fun K hK => ?_⟩
                go_wp2
                refine ⟨rfl, hK _ _ (fun _ => cK0) ?_⟩
                clear hK K
                refine MixJ.many [25] 0 (by kernel_rfl) (by decide) (by kernel_rfl) ?_
                intro i hi
                simp only [List.mem_cons, List.not_mem_nil, or_false] at hi
                subst hi
                refine ⟨_, rfl, fun K hK => ?_⟩
                go_wp2
                refine ⟨rfl, hK _ _ (fun q => absurd rfl q) ?_⟩
                clear hK K
                refine MixJ.done (by kernel_rfl) ?_
                go_wp2
                go_meet
                exact HR
            · refine ⟨_, rfl, fun K hK => ?_⟩
              go_wp2
              obtain ⟨wq262, hwq262⟩ : ∃ x, x = wq212.alloc (.cells #[.int .u8 (m : Int), .int .u8 (m : Int), .int .u8 (m : Int)] 5) := ⟨_, rfl⟩
              obtain ⟨X263, hX263⟩ : ∃ x, x = wq212.heap.size := ⟨_, rfl⟩
              have HQ264 : Hid (ByS w BK b 5 [.int .u8 (m : Int)] (.slice la k lc) k 0 [] ((X263, 3) :: [(X213, 1), (X210, 2)]) wq262) := by
                rw [hwq262, hX263]
                exact HQ214.out.new 3 #[.int .u8 (m : Int), .int .u8 (m : Int), .int .u8 (m : Int)] 5 rfl
              rw [← hwq262, ← hX263]
              clear hwq262 hX263 HQ214
              refine ⟨rfl, hK _ _ (fun _ => by have := HQ264.out.bk.c0; rw [HBV.out] at this; exact this) ?_⟩
              clear hK K
              refine MixJ.many [9] 7 (by kernel_rfl) (by decide) (by kernel_rfl) ?_
              intro i hi
              simp only [List.mem_cons, List.not_mem_nil, or_false] at hi
              subst hi
              refine ⟨_, rfl, fun K hK => ?_⟩
              go_wp2_with (first | (at_builtin; refine append_fy rfl (.tmp 30) (.tmp 32) 22 rfl 0 5 i0 _ 1 [.int .u8 (m : Int)] Nat.zero_lt_one Try.underlying22 hi0 hz0 hz1 hz2 rfl (.slice la k lc) k 0 [] rfl HQ264.out.fy ⟨X213, 0, none⟩ 1 1 rfl (by decide) ?ca2691 ?ca2692 ?ca2693 ?ca2694 (Nat.zero_le _) ?_))
              try (case ca2691 => exact HQ264.out.news (by simp))
              try (case ca2692 => first | rfl | (intro u hu; rw [List.mem_singleton.1 hu]; rfl))
              try (case ca2693 => unfold maxLen; omega)
              try (case ca2694 => omega)
              intro v' wq265 ff
              obtain ⟨f1, f2, f3, f4⟩ := ff.out
              obtain ⟨va267, vc268, rfl⟩ := f4
              have HQ266 : Hid (ByS w BK b 5 [.int .u8 (m : Int)] (.slice la k lc) k 1 ([] ++ [(.slice va267 (k + 1) vc268, k + 1)]) [(X263, 3), (X213, 1), (X210, 2)] wq265) := HQ264.out.app f1 f2 f3
              clear ff f1 f2 f3 HQ264
              (try go_wp2)
              refine ⟨rfl, hK _ _ (fun _ => by have := HQ266.out.bk.c0; rw [HBV.out] at this; exact this) ?_⟩
              clear hK K
              refine MixJ.many [14] 6 (by kernel_rfl) (by decide) (by kernel_rfl) ?_
              intro i hi
              simp only [List.mem_cons, List.not_mem_nil, or_false] at hi
              subst hi
              refine ⟨_, rfl, fun K hK => ?_⟩
              go_wp2_with (first | (at_builtin; refine append_fy rfl (.tmp 34) (.tmp 37) 22 rfl 0 5 i0 _ 1 [.int .u8 (m : Int)] Nat.zero_lt_one Try.underlying22 hi0 hz0 hz1 hz2 rfl (.slice la k lc) k 1 [(.slice va267 (k + 1) vc268, k + 1)] rfl HQ266.out.fy ⟨X210, 0, none⟩ 2 2 rfl (by decide) ?ca2741 ?ca2742 ?ca2743 ?ca2744 (Nat.zero_le _) ?_))
              try (case ca2741 => exact HQ266.out.news (by simp))
              try (case ca2742 => first | rfl | (intro u hu; rw [List.mem_singleton.1 hu]; rfl))
              try (case ca2743 => unfold maxLen; omega)
              try (case ca2744 => omega)
              intro v' wq270 ff
              obtain ⟨f1, f2, f3, f4⟩ := ff.out
              obtain ⟨va272, vc273, rfl⟩ := f4
              have HQ271 : Hid (ByS w BK b 5 [.int .u8 (m : Int)] (.slice la k lc) k 2 ([(.slice va267 (k + 1) vc268, k + 1)] ++ [(.slice va272 (k + 2) vc273, k + 2)]) [(X263, 3), (X213, 1), (X210, 2)] wq270) := HQ266.out.app f1 f2 f3
              clear ff f1 f2 f3 HQ266
              (try go_wp2)
              refine ⟨rfl, hK _ _ (fun _ => by have := HQ271.out.bk.c0; rw [HBV.out] at this; exact this) ?_⟩
              clear hK K
              refine MixJ.many [20] 5 (by kernel_rfl) (by decide) (by kernel_rfl) ?_
              intro i hi
              simp only [List.mem_cons, List.not_mem_nil, or_false] at hi
              subst hi
              refine ⟨_, rfl, fun K hK => ?_⟩
              go_wp2_with (first | (at_builtin; refine append_fy rfl (.tmp 39) (.tmp 43) 22 rfl 0 5 i0 _ 1 [.int .u8 (m : Int)] Nat.zero_lt_one Try.underlying22 hi0 hz0 hz1 hz2 rfl (.slice la k lc) k 2 [(.slice va267 (k + 1) vc268, k + 1), (.slice va272 (k + 2) vc273, k + 2)] rfl HQ271.out.fy ⟨X263, 0, none⟩ 3 3 rfl (by decide) ?ca2791 ?ca2792 ?ca2793 ?ca2794 (Nat.zero_le _) ?_))
              try (case ca2791 => exact HQ271.out.news (by simp))
              try (case ca2792 => first | rfl | (intro u hu; rw [List.mem_singleton.1 hu]; rfl))
              try (case ca2793 => unfold maxLen; omega)
              try (case ca2794 => omega)
              intro v' wq275 ff
              obtain ⟨f1, f2, f3, f4⟩ := ff.out
              obtain ⟨va277, vc278, rfl⟩ := f4
              have HQ276 : Hid (ByS w BK b 5 [.int .u8 (m : Int)] (.slice la k lc) k 3 ([(.slice va267 (k + 1) vc268, k + 1), (.slice va272 (k + 2) vc273, k + 2)] ++ [(.slice va277 (k + 3) vc278, k + 3)]) [(X263, 3), (X213, 1), (X210, 2)] wq275) := HQ271.out.app f1 f2 f3
              clear ff f1 f2 f3 HQ271
              (try go_wp2)
              refine ⟨rfl, hK _ _ (fun _ => by have := HQ276.out.bk.c0; rw [HBV.out] at this; exact this) ?_⟩
              clear hK K
              refine MixJ.many [21] 4 (by kernel_rfl) (by decide) (by kernel_rfl) ?_
              intro i hi
              simp only [List.mem_cons, List.not_mem_nil, or_false] at hi
              subst hi
              refine ⟨_, rfl, fun K hK => ?_⟩
              go_wp2
              have hN4 := fourW wq275 (.slice la k lc) (.slice va267 (k + 1) vc268) (.slice va272 (k + 2) vc273) (.slice va277 (k + 3) vc278) 22
              obtain ⟨wq280, hwq280⟩ : ∃ x, x = wq275.alloc (.cells #[.slice la k lc, .slice va267 (k + 1) vc268, .slice va272 (k + 2) vc273, .slice va277 (k + 3) vc278] 22) := ⟨_, rfl⟩
              obtain ⟨X281, hX281⟩ : ∃ x, x = wq275.heap.size := ⟨_, rfl⟩
              have HQ282 : Hid (ByS w BK b 5 [.int .u8 (m : Int)] (.slice la k lc) k 3 [(.slice va267 (k + 1) vc268, k + 1), (.slice va272 (k + 2) vc273, k + 2), (.slice va277 (k + 3) vc278, k + 3)] [] wq280) := by
                rw [hwq280]
                exact (HQ276.out.weak (A' := []) (fun r hr => hr) (fun p hp => by simp at hp)).below ((Below.refl _ _).alloc (Nat.le_refl _) _)
              rw [← hwq280, ← hX281] at hN4
              have HN283 : Hid (∀ j u, ([.slice la k lc, .slice va267 (k + 1) vc268, .slice va272 (k + 2) vc273, .slice va277 (k + 3) vc278] : List Value)[j]? = some u → wq280.cell? ((⟨X281, 0, none⟩ : Addr).add j) = some u) := hN4
              rw [← hwq280, ← hX281]
              clear hwq280 hX281 HQ276 hN4
              refine ⟨rfl, hK _ _ (fun _ => by have := HQ282.out.bk.c0; rw [HBV.out] at this; exact this) ?_⟩
              clear hK K
              refine MixJ.many [22] 3 (by kernel_rfl) (by decide) (by kernel_rfl) ?_
              intro i hi
              simp only [List.mem_cons, List.not_mem_nil, or_false] at hi
              subst hi
              refine ⟨_, rfl, fun K hK => ?_⟩
              have hob := HQ282.out.bk.ob
              rw [HBV.out, HEN.out] at hob
              go_wp2_with (first | (at_builtin; refine wpList_append_own_at _ rfl (.tmp 28) (.tmp 45) 62 rfl 0 22 i1 _ 1 24 Try.underlying62 hi1 hy0 hy1 hy2 rfl (by decide) _ _ _ rfl hob ⟨X281, 0, none⟩ 4 4 [.slice la k lc, .slice va267 (k + 1) vc268, .slice va272 (k + 2) vc273, .slice va277 (k + 3) vc278] rfl rfl ?ca2851 ?ca2852 ?ca2853 ?ca2854 ?ca2855 ?_))
              try (case ca2851 => exact HN283.out)
              try (case ca2852 => first | exact ⟨rfl, rfl, rfl, rfl⟩ | (intro u hu; simp only [List.mem_cons, List.not_mem_nil, or_false] at hu; rcases hu with rfl | rfl | rfl | rfl <;> rfl))
              try (case ca2853 => unfold maxLen; omega)
              try (case ca2854 => omega)
              try (case ca2855 => exact Nat.zero_le _)
              intro u5 wq284 r1 r2 _ r4
              obtain ⟨ua286, uc287, hu5⟩ := owns_shape r1
              subst hu5
              have cc : Ch (fun q => b.hb.ownBlock = some q) wq280 wq284 := (Ch.ofGrown r2).mono (fun x _ q => by rw [HBV.out]; exact q)
              have cK0 : wq284.cell? ⟨BK, 0, none⟩ = some (.slice ba N bc) := by
                have := cc.cell HQ282.out.bk.c0 (fun e => HQ282.out.bk.nK BK (.inl e) rfl)
                rw [HBV.out] at this
                exact this
              have fK0 : wq284.frozen? ⟨BK, 0, none⟩ = false := (cc.frozen (p := ⟨BK, 0, none⟩) (HQ282.out.bk.lt BK (.inl rfl)) (fun e => HQ282.out.bk.nK BK (.inl e) rfl)).trans (HQ282.out.bk.fz 0)
              have HR : Hid (RESB w BK b la lc k m (wq284.setCell ⟨BK, 0, none⟩ (.slice ua286 (N + 4) uc287))) := by
                have hrr := res_bytes HQ282.out HLT.out HBV.out HEN.out [(.slice la k lc, k), (.slice va267 (k + 1) vc268, k + 1), (.slice va272 (k + 2) vc273, k + 2), (.slice va277 (k + 3) vc278, k + 3)] (by intro r hr; simp only [List.mem_cons, List.not_mem_nil, or_false] at hr; rcases hr with rfl | rfl | rfl | rfl <;> simp) r1 r2 r4
                exact ⟨_, [(.slice la k lc, k), (.slice va267 (k + 1) vc268, k + 1), (.slice va272 (k + 2) vc273, k + 2), (.slice va277 (k + 3) vc278, k + 3)], hrr, rfl, by intro r hr; rw [List.mem_map] at hr; obtain ⟨y, _, rfl⟩ := hr; rfl⟩
              clear r1 r2 r4 cc HN283 hob HQ282
              (try go_wp2)
              refine ⟨rfl, hK _ _ (fun _ => cK0) ?_⟩
              clear hK K
              refine MixJ.many [23] 2 (by kernel_rfl) (by decide) (by kernel_rfl) ?_
              intro i hi
              simp only [List.mem_cons, List.not_mem_nil, or_false] at hi
              subst hi
              refine ⟨_, rfl, fun K hK => ?_⟩
              go_wp2
              refine ⟨rfl, hK _ _ (fun _ => cK0) ?_⟩
              clear hK K
              refine MixJ.many [24] 1 (by kernel_rfl) (by decide) (by kernel_rfl) ?_
              intro i hi
              simp only [List.mem_cons, List.not_mem_nil, or_false] at hi
              subst hi
              refine ⟨_, rfl, fun K hK => ?_⟩
              go_wp2
              refine ⟨rfl, hK _ _ (fun _ => cK0) ?_⟩
              clear hK K
              refine MixJ.many [25] 0 (by kernel_rfl) (by decide) (by kernel_rfl) ?_
              intro i hi
              simp only [List.mem_cons, List.not_mem_nil, or_false] at hi
              subst hi
              refine ⟨_, rfl, fun K hK => ?_⟩
              go_wp2
              refine ⟨rfl, hK _ _ (fun q => absurd rfl q) ?_⟩
              clear hK K
              refine MixJ.done (by kernel_rfl) ?_
              go_wp2
              go_meet
              exact HR
          · refine ⟨_, rfl, fun K hK => ?_⟩
            go_wp2
            obtain ⟨wq288, hwq288⟩ : ∃ x, x = wq209.alloc (.cells #[.int .u8 (m : Int), .int .u8 (m : Int), .int .u8 (m : Int)] 5) := ⟨_, rfl⟩
            obtain ⟨X289, hX289⟩ : ∃ x, x = wq209.heap.size := ⟨_, rfl⟩
            have HQ290 : Hid (ByS w BK b 5 [.int .u8 (m : Int)] (.slice la k lc) k 0 [] ((X289, 3) :: [(X210, 2)]) wq288) := by
              rw [hwq288, hX289]
              exact HQ211.out.new 3 #[.int .u8 (m : Int), .int .u8 (m : Int), .int .u8 (m : Int)] 5 rfl
            rw [← hwq288, ← hX289]
            clear hwq288 hX289 HQ211
            refine ⟨rfl, hK _ _ (fun _ => by have := HQ290.out.bk.c0; rw [HBV.out] at this; exact this) ?_⟩
            clear hK K
            refine MixJ.many [8] 8 (by kernel_rfl) (by decide) (by kernel_rfl) ?_
            intro i hi
            simp only [List.mem_cons, List.not_mem_nil, or_false] at hi
            subst hi
            refine ⟨_, rfl, fun K hK => ?_⟩
            go_wp2
            obtain ⟨wq291, hwq291⟩ : ∃ x, x = wq288.alloc (.cells #[.int .u8 (m : Int)] 5) := ⟨_, rfl⟩
            obtain ⟨X292, hX292⟩ : ∃ x, x = wq288.heap.size := ⟨_, rfl⟩
            have HQ293 : Hid (ByS w BK b 5 [.int .u8 (m : Int)] (.slice la k lc) k 0 [] ((X292, 1) :: [(X289, 3), (X210, 2)]) wq291) := by
              rw [hwq291, hX292]
              exact HQ290.out.new 1 #[.int .u8 (m : Int)] 5 rfl
            rw [← hwq291, ← hX292]
            clear hwq291 hX292 HQ290
            refine ⟨rfl, hK _ _ (fun _ => by have := HQ293.out.bk.c0; rw [HBV.out] at this; exact this) ?_⟩
            clear hK K
            refine MixJ.many [9] 7 (by kernel_rfl) (by decide) (by kernel_rfl) ?_
            intro i hi
            simp only [List.mem_cons, List.not_mem_nil, or_false] at hi
            subst hi
            refine ⟨_, rfl, fun K hK => ?_⟩
            go_wp2_with (first | (at_builtin; refine append_fy rfl (.tmp 30) (.tmp 32) 22 rfl 0 5 i0 _ 1 [.int .u8 (m : Int)] Nat.zero_lt_one Try.underlying22 hi0 hz0 hz1 hz2 rfl (.slice la k lc) k 0 [] rfl HQ293.out.fy ⟨X292, 0, none⟩ 1 1 rfl (by decide) ?ca2981 ?ca2982 ?ca2983 ?ca2984 (Nat.zero_le _) ?_))
            try (case ca2981 => exact HQ293.out.news (by simp))
            try (case ca2982 => first | rfl | (intro u hu; rw [List.mem_singleton.1 hu]; rfl))
            try (case ca2983 => unfold maxLen; omega)
            try (case ca2984 => omega)
            intro v' wq294 ff
            obtain ⟨f1, f2, f3, f4⟩ := ff.out
            obtain ⟨va296, vc297, rfl⟩ := f4
            have HQ295 : Hid (ByS w BK b 5 [.int .u8 (m : Int)] (.slice la k lc) k 1 ([] ++ [(.slice va296 (k + 1) vc297, k + 1)]) [(X292, 1), (X289, 3), (X210, 2)] wq294) := HQ293.out.app f1 f2 f3
            clear ff f1 f2 f3 HQ293
            (try go_wp2)
            refine ⟨rfl, hK _ _ (fun _ => by have := HQ295.out.bk.c0; rw [HBV.out] at this; exact this) ?_⟩
            clear hK K
            refine MixJ.many [14] 6 (by kernel_rfl) (by decide) (by kernel_rfl) ?_
            intro i hi
            simp only [List.mem_cons, List.not_mem_nil, or_false] at hi
            subst hi
            refine ⟨_, rfl, fun K hK => ?_⟩
            go_wp2_with (first | (at_builtin; refine append_fy rfl (.tmp 34) (.tmp 37) 22 rfl 0 5 i0 _ 1 [.int .u8 (m : Int)] Nat.zero_lt_one Try.underlying22 hi0 hz0 hz1 hz2 rfl (.slice la k lc) k 1 [(.slice va296 (k + 1) vc297, k + 1)] rfl HQ295.out.fy ⟨X210, 0, none⟩ 2 2 rfl (by decide) ?ca3031 ?ca3032 ?ca3033 ?ca3034 (Nat.zero_le _) ?_))
            try (case ca3031 => exact HQ295.out.news (by simp))
            try (case ca3032 => first | rfl | (intro u hu; rw [List.mem_singleton.1 hu]; rfl))
            try (case ca3033 => unfold maxLen; omega)
            try (case ca3034 => omega)
            intro v' wq299 ff
            obtain ⟨f1, f2, f3, f4⟩ := ff.out
            obtain ⟨va301, vc302, rfl⟩ := f4
            have HQ300 : Hid (ByS w BK b 5 [.int .u8 (m : Int)] (.slice la k lc) k 2 ([(.slice va296 (k + 1) vc297, k + 1)] ++ [(.slice va301 (k + 2) vc302, k + 2)]) [(X292, 1), (X289, 3), (X210, 2)] wq299) := HQ295.out.app f1 f2 f3
            clear ff f1 f2 f3 HQ295
            (try go_wp2)
            refine ⟨rfl, hK _ _ (fun _ => by have := HQ300.out.bk.c0; rw [HBV.out] at this; exact this) ?_⟩
            clear hK K
            refine MixJ.many [20] 5 (by kernel_rfl) (by decide) (by kernel_rfl) ?_
            intro i hi
            simp only [List.mem_cons, List.not_mem_nil, or_false] at hi
            subst hi
            refine ⟨_, rfl, fun K hK => ?_⟩
            go_wp2_with (first | (at_builtin; refine append_fy rfl (.tmp 39) (.tmp 43) 22 rfl 0 5 i0 _ 1 [.int .u8 (m : Int)] Nat.zero_lt_one Try.underlying22 hi0 hz0 hz1 hz2 rfl (.slice la k lc) k 2 [(.slice va296 (k + 1) vc297, k + 1), (.slice va301 (k + 2) vc302, k + 2)] rfl HQ300.out.fy ⟨X289, 0, none⟩ 3 3 rfl (by decide) ?ca3081 ?ca3082 ?ca3083 ?ca3084 (Nat.zero_le _) ?_))
            try (case ca3081 => exact HQ300.out.news (by simp))
            try (case ca3082 => first | rfl | (intro u hu; rw [List.mem_singleton.1 hu]; rfl))
            try (case ca3083 => unfold maxLen; omega)
            try (case ca3084 => omega)
            intro v' wq304 ff
            obtain ⟨f1, f2, f3, f4⟩ := ff.out
            obtain ⟨va306, vc307, rfl⟩ := f4
            have HQ305 : Hid (ByS w BK b 5 [.int .u8 (m : Int)] (.slice la k lc) k 3 ([(.slice va296 (k + 1) vc297, k + 1), (.slice va301 (k + 2) vc302, k + 2)] ++ [(.slice va306 (k + 3) vc307, k + 3)]) [(X292, 1), (X289, 3), (X210, 2)] wq304) := HQ300.out.app f1 f2 f3
            clear ff f1 f2 f3 HQ300
            (try go_wp2)
            refine ⟨rfl, hK _ _ (fun _ => by have := HQ305.out.bk.c0; rw [HBV.out] at this; exact this) ?_⟩
            clear hK K
            refine MixJ.many [21] 4 (by kernel_rfl) (by decide) (by kernel_rfl) ?_
            intro i hi
            simp only [List.mem_cons, List.not_mem_nil, or_false] at hi
            subst hi
            refine ⟨_, rfl, fun K hK => ?_⟩
            go_wp2
            have hN4 := fourW wq304 (.slice la k lc) (.slice va296 (k + 1) vc297) (.slice va301 (k + 2) vc302) (.slice va306 (k + 3) vc307) 22
            obtain ⟨wq309, hwq309⟩ : ∃ x, x = wq304.alloc (.cells #[.slice la k lc, .slice va296 (k + 1) vc297, .slice va301 (k + 2) vc302, .slice va306 (k + 3) vc307] 22) := ⟨_, rfl⟩
            obtain ⟨X310, hX310⟩ : ∃ x, x = wq304.heap.size := ⟨_, rfl⟩
            have HQ311 : Hid (ByS w BK b 5 [.int .u8 (m : Int)] (.slice la k lc) k 3 [(.slice va296 (k + 1) vc297, k + 1), (.slice va301 (k + 2) vc302, k + 2), (.slice va306 (k + 3) vc307, k + 3)] [] wq309) := by
              rw [hwq309]
              exact (HQ305.out.weak (A' := []) (fun r hr => hr) (fun p hp => by simp at hp)).below ((Below.refl _ _).alloc (Nat.le_refl _) _)
            rw [← hwq309, ← hX310] at hN4
            have HN312 : Hid (∀ j u, ([.slice la k lc, .slice va296 (k + 1) vc297, .slice va301 (k + 2) vc302, .slice va306 (k + 3) vc307] : List Value)[j]? = some u → wq309.cell? ((⟨X310, 0, none⟩ : Addr).add j) = some u) := hN4
            rw [← hwq309, ← hX310]
            clear hwq309 hX310 HQ305 hN4
            refine ⟨rfl, hK _ _ (fun _ => by have := HQ311.out.bk.c0; rw [HBV.out] at this; exact this) ?_⟩
            clear hK K
            refine MixJ.many [22] 3 (by kernel_rfl) (by decide) (by kernel_rfl) ?_
            intro i hi
            simp only [List.mem_cons, List.not_mem_nil, or_false] at hi
            subst hi
            refine ⟨_, rfl, fun K hK => ?_⟩
            have hob := HQ311.out.bk.ob
            rw [HBV.out, HEN.out] at hob
            go_wp2_with (first | (at_builtin; refine wpList_append_own_at _ rfl (.tmp 28) (.tmp 45) 62 rfl 0 22 i1 _ 1 24 Try.underlying62 hi1 hy0 hy1 hy2 rfl (by decide) _ _ _ rfl hob ⟨X310, 0, none⟩ 4 4 [.slice la k lc, .slice va296 (k + 1) vc297, .slice va301 (k + 2) vc302, .slice va306 (k + 3) vc307] rfl rfl ?ca3141 ?ca3142 ?ca3143 ?ca3144 ?ca3145 ?_))
            try (case ca3141 => exact HN312.out)
            try (case ca3142 => first | exact ⟨rfl, rfl, rfl, rfl⟩ | (intro u hu; simp only [List.mem_cons, List.not_mem_nil, or_false] at hu; rcases hu with rfl | rfl | rfl | rfl <;> rfl))
            try (case ca3143 => unfold maxLen; omega)
            try (case ca3144 => omega)
            try (case ca3145 => exact Nat.zero_le _)
            intro u5 wq313 r1 r2 _ r4
            obtain ⟨ua315, uc316, hu5⟩ := owns_shape r1
            subst hu5
            have cc : Ch (fun q => b.hb.ownBlock = some q) wq309 wq313 := (Ch.ofGrown r2).mono (fun x _ q => by rw [HBV.out]; exact q)
            have cK0 : wq313.cell? ⟨BK, 0, none⟩ = some (.slice ba N bc) := by
              have := cc.cell HQ311.out.bk.c0 (fun e => HQ311.out.bk.nK BK (.inl e) rfl)
              rw [HBV.out] at this
              exact this
            have fK0 : wq313.frozen? ⟨BK, 0, none⟩ = false := (cc.frozen (p := ⟨BK, 0, none⟩) (HQ311.out.bk.lt BK (.inl rfl)) (fun e => HQ311.out.bk.nK BK (.inl e) rfl)).trans (HQ311.out.bk.fz 0)
            have HR : Hid (RESB w BK b la lc k m (wq313.setCell ⟨BK, 0, none⟩ (.slice ua315 (N + 4) uc316))) := by
              have hrr := res_bytes HQ311.out HLT.out HBV.out HEN.out [(.slice la k lc, k), (.slice va296 (k + 1) vc297, k + 1), (.slice va301 (k + 2) vc302, k + 2), (.slice va306 (k + 3) vc307, k + 3)] (by intro r hr; simp only [List.mem_cons, List.not_mem_nil, or_false] at hr; rcases hr with rfl | rfl | rfl | rfl <;> simp) r1 r2 r4
              exact ⟨_, [(.slice la k lc, k), (.slice va296 (k + 1) vc297, k + 1), (.slice va301 (k + 2) vc302, k + 2), (.slice va306 (k + 3) vc307, k + 3)], hrr, rfl, by intro r hr; rw [List.mem_map] at hr; obtain ⟨y, _, rfl⟩ := hr; rfl⟩
            clear r1 r2 r4 cc HN312 hob HQ311
            (try go_wp2)
            refine ⟨rfl, hK _ _ (fun _ => cK0) ?_⟩
            clear hK K
            refine MixJ.many [23] 2 (by kernel_rfl) (by decide) (by kernel_rfl) ?_
            intro i hi
            simp only [List.mem_cons, List.not_mem_nil, or_false] at hi
            subst hi
            refine ⟨_, rfl, fun K hK => ?_⟩
            go_wp2
            refine ⟨rfl, hK _ _ (fun _ => cK0) ?_⟩
            clear hK K
            refine MixJ.many [24] 1 (by kernel_rfl) (by decide) (by kernel_rfl) ?_
            intro i hi
            simp only [List.mem_cons, List.not_mem_nil, or_false] at hi
            subst hi
            refine ⟨_, rfl, fun K hK => ?_⟩
            go_wp2
            refine ⟨rfl, hK _ _ (fun _ => cK0) ?_⟩
            clear hK K
            refine MixJ.many [25] 0 (by kernel_rfl) (by decide) (by kernel_rfl) ?_
            intro i hi
            simp only [List.mem_cons, List.not_mem_nil, or_false] at hi
            subst hi
            refine ⟨_, rfl, fun K hK => ?_⟩
            go_wp2
            refine ⟨rfl, hK _ _ (fun q => absurd rfl q) ?_⟩
            clear hK K
            refine MixJ.done (by kernel_rfl) ?_
            go_wp2
            go_meet
            exact HR
        · refine ⟨_, rfl, fun K hK => ?_⟩
          go_wp2
          obtain ⟨wq317, hwq317⟩ : ∃ x, x = wA.alloc (.cells #[.int .u8 (m : Int), .int .u8 (m : Int), .int .u8 (m : Int)] 5) := ⟨_, rfl⟩
          obtain ⟨X318, hX318⟩ : ∃ x, x = wA.heap.size := ⟨_, rfl⟩
          have HQ319 : Hid (ByS w BK b 5 [.int .u8 (m : Int)] (.slice la k lc) k 0 [] ((X318, 3) :: []) wq317) := by
            rw [hwq317, hX318]
            exact H0.out.new 3 #[.int .u8 (m : Int), .int .u8 (m : Int), .int .u8 (m : Int)] 5 rfl
          rw [← hwq317, ← hX318]
          clear hwq317 hX318 H0
          refine ⟨rfl, hK _ _ (fun _ => by have := HQ319.out.bk.c0; rw [HBV.out] at this; exact this) ?_⟩
          clear hK K
          refine MixJ.many [8, 13] 9 (by kernel_rfl) (by decide) (by kernel_rfl) ?_
          intro i hi
          simp only [List.mem_cons, List.not_mem_nil, or_false] at hi
          rcases hi with rfl | rfl
          · refine ⟨_, rfl, fun K hK => ?_⟩
            go_wp2
            obtain ⟨wq320, hwq320⟩ : ∃ x, x = wq317.alloc (.cells #[.int .u8 (m : Int)] 5) := ⟨_, rfl⟩
            obtain ⟨X321, hX321⟩ : ∃ x, x = wq317.heap.size := ⟨_, rfl⟩
            have HQ322 : Hid (ByS w BK b 5 [.int .u8 (m : Int)] (.slice la k lc) k 0 [] ((X321, 1) :: [(X318, 3)]) wq320) := by
              rw [hwq320, hX321]
              exact HQ319.out.new 1 #[.int .u8 (m : Int)] 5 rfl
            rw [← hwq320, ← hX321]
            clear hwq320 hX321 HQ319
            refine ⟨rfl, hK _ _ (fun _ => by have := HQ322.out.bk.c0; rw [HBV.out] at this; exact this) ?_⟩
            clear hK K
            refine MixJ.many [9, 13] 8 (by kernel_rfl) (by decide) (by kernel_rfl) ?_
            intro i hi
            simp only [List.mem_cons, List.not_mem_nil, or_false] at hi
            rcases hi with rfl | rfl
            · refine ⟨_, rfl, fun K hK => ?_⟩
              go_wp2_with (first | (at_builtin; refine append_fy rfl (.tmp 30) (.tmp 32) 22 rfl 0 5 i0 _ 1 [.int .u8 (m : Int)] Nat.zero_lt_one Try.underlying22 hi0 hz0 hz1 hz2 rfl (.slice la k lc) k 0 [] rfl HQ322.out.fy ⟨X321, 0, none⟩ 1 1 rfl (by decide) ?ca3271 ?ca3272 ?ca3273 ?ca3274 (Nat.zero_le _) ?_))
              try (case ca3271 => exact HQ322.out.news (by simp))
              try (case ca3272 => first | rfl | (intro u hu; rw [List.mem_singleton.1 hu]; rfl))
              try (case ca3273 => unfold maxLen; omega)
              try (case ca3274 => omega)
              intro v' wq323 ff
              obtain ⟨f1, f2, f3, f4⟩ := ff.out
              obtain ⟨va325, vc326, rfl⟩ := f4
              have HQ324 : Hid (ByS w BK b 5 [.int .u8 (m : Int)] (.slice la k lc) k 1 ([] ++ [(.slice va325 (k + 1) vc326, k + 1)]) [(X321, 1), (X318, 3)] wq323) := HQ322.out.app f1 f2 f3
              clear ff f1 f2 f3 HQ322
              (try go_wp2)
              refine ⟨rfl, hK _ _ (fun _ => by have := HQ324.out.bk.c0; rw [HBV.out] at this; exact this) ?_⟩
              clear hK K
              refine MixJ.many [13] 7 (by kernel_rfl) (by decide) (by kernel_rfl) ?_
              intro i hi
              simp only [List.mem_cons, List.not_mem_nil, or_false] at hi
              subst hi
              refine ⟨_, rfl, fun K hK => ?_⟩
              go_wp2
              obtain ⟨wq328, hwq328⟩ : ∃ x, x = wq323.alloc (.cells #[.int .u8 (m : Int), .int .u8 (m : Int)] 5) := ⟨_, rfl⟩
              obtain ⟨X329, hX329⟩ : ∃ x, x = wq323.heap.size := ⟨_, rfl⟩
              have HQ330 : Hid (ByS w BK b 5 [.int .u8 (m : Int)] (.slice la k lc) k 1 [(.slice va325 (k + 1) vc326, k + 1)] ((X329, 2) :: [(X321, 1), (X318, 3)]) wq328) := by
                rw [hwq328, hX329]
                exact HQ324.out.new 2 #[.int .u8 (m : Int), .int .u8 (m : Int)] 5 rfl
              rw [← hwq328, ← hX329]
              clear hwq328 hX329 HQ324
              refine ⟨rfl, hK _ _ (fun _ => by have := HQ330.out.bk.c0; rw [HBV.out] at this; exact this) ?_⟩
              clear hK K
              refine MixJ.many [14] 6 (by kernel_rfl) (by decide) (by kernel_rfl) ?_
              intro i hi
              simp only [List.mem_cons, List.not_mem_nil, or_false] at hi
              subst hi
              refine ⟨_, rfl, fun K hK => ?_⟩
              go_wp2_with (first | (at_builtin; refine append_fy rfl (.tmp 34) (.tmp 37) 22 rfl 0 5 i0 _ 1 [.int .u8 (m : Int)] Nat.zero_lt_one Try.underlying22 hi0 hz0 hz1 hz2 rfl (.slice la k lc) k 1 [(.slice va325 (k + 1) vc326, k + 1)] rfl HQ330.out.fy ⟨X329, 0, none⟩ 2 2 rfl (by decide) ?ca3351 ?ca3352 ?ca3353 ?ca3354 (Nat.zero_le _) ?_))
              try (case ca3351 => exact HQ330.out.news (by simp))
              try (case ca3352 => first | rfl | (intro u hu; rw [List.mem_singleton.1 hu]; rfl))
              try (case ca3353 => unfold maxLen; omega)
              try (case ca3354 => omega)
              intro v' wq331 ff
              obtain ⟨f1, f2, f3, f4⟩ := ff.out
              obtain ⟨va333, vc334, rfl⟩ := f4
              have HQ332 : Hid (ByS w BK b 5 [.int .u8 (m : Int)] (.slice la k lc) k 2 ([(.slice va325 (k + 1) vc326, k + 1)] ++ [(.slice va333 (k + 2) vc334, k + 2)]) [(X329, 2), (X321, 1), (X318, 3)] wq331) := HQ330.out.app f1 f2 f3
              clear ff f1 f2 f3 HQ330
              (try go_wp2)
              refine ⟨rfl, hK _ _ (fun _ => by have := HQ332.out.bk.c0; rw [HBV.out] at this; exact this) ?_⟩
              clear hK K
              refine MixJ.many [20] 5 (by kernel_rfl) (by decide) (by kernel_rfl) ?_
              intro i hi
              simp only [List.mem_cons, List.not_mem_nil, or_false] at hi
              subst hi
              refine ⟨_, rfl, fun K hK => ?_⟩
              go_wp2_with (first | (at_builtin; refine append_fy rfl (.tmp 39) (.tmp 43) 22 rfl 0 5 i0 _ 1 [.int .u8 (m : Int)] Nat.zero_lt_one Try.underlying22 hi0 hz0 hz1 hz2 rfl (.slice la k lc) k 2 [(.slice va325 (k + 1) vc326, k + 1), (.slice va333 (k + 2) vc334, k + 2)] rfl HQ332.out.fy ⟨X318, 0, none⟩ 3 3 rfl (by decide) ?ca3401 ?ca3402 ?ca3403 ?ca3404 (Nat.zero_le _) ?_))
              try (case ca3401 => exact HQ332.out.news (by simp))
              try (case ca3402 => first | rfl | (intro u hu; rw [List.mem_singleton.1 hu]; rfl))
              try (case ca3403 => unfold maxLen; omega)
              try (case ca3404 => omega)
              intro v' wq336 ff
              obtain ⟨f1, f2, f3, f4⟩ := ff.out
              obtain ⟨va338, vc339, rfl⟩ := f4
              have HQ337 : Hid (ByS w BK b 5 [.int .u8 (m : Int)] (.slice la k lc) k 3 ([(.slice va325 (k + 1) vc326, k + 1), (.slice va333 (k + 2) vc334, k + 2)] ++ [(.slice va338 (k + 3) vc339, k + 3)]) [(X329, 2), (X321, 1), (X318, 3)] wq336) := HQ332.out.app f1 f2 f3
              clear ff f1 f2 f3 HQ332
              (try go_wp2)
              refine ⟨rfl, hK _ _ (fun _ => by have := HQ337.out.bk.c0; rw [HBV.out] at this; exact this) ?_⟩
              clear hK K
              refine MixJ.many [21] 4 (by kernel_rfl) (by decide) (by kernel_rfl) ?_
              intro i hi
              simp only [List.mem_cons, List.not_mem_nil, or_false] at hi
              subst hi
              refine ⟨_, rfl, fun K hK => ?_⟩
              go_wp2
              have hN4 := fourW wq336 (.slice la k lc) (.slice va325 (k + 1) vc326) (.slice va333 (k + 2) vc334) (.slice va338 (k + 3) vc339) 22
              obtain ⟨wq341, hwq341⟩ : ∃ x, x = wq336.alloc (.cells #[.slice la k lc, .slice va325 (k + 1) vc326, .slice va333 (k + 2) vc334, .slice va338 (k + 3) vc339] 22) := ⟨_, rfl⟩
              obtain ⟨X342, hX342⟩ : ∃ x, x = wq336.heap.size := ⟨_, rfl⟩
              have HQ343 : Hid (ByS w BK b 5 [.int .u8 (m : Int)] (.slice la k lc) k 3 [(.slice va325 (k + 1) vc326, k + 1), (.slice va333 (k + 2) vc334, k + 2), (.slice va338 (k + 3) vc339, k + 3)] [] wq341) := by
                rw [hwq341]
                exact (HQ337.out.weak (A' := []) (fun r hr => hr) (fun p hp => by simp at hp)).below ((Below.refl _ _).alloc (Nat.le_refl _) _)
              rw [← hwq341, ← hX342] at hN4
              have HN344 : Hid (∀ j u, ([.slice la k lc, .slice va325 (k + 1) vc326, .slice va333 (k + 2) vc334, .slice va338 (k + 3) vc339] : List Value)[j]? = some u → wq341.cell? ((⟨X342, 0, none⟩ : Addr).add j) = some u) := hN4
              rw [← hwq341, ← hX342]
              clear hwq341 hX342 HQ337 hN4
              refine ⟨rfl, hK _ _ (fun _ => by have := HQ343.out.bk.c0; rw [HBV.out] at this; exact this) ?_⟩
              clear hK K
              refine MixJ.many [22] 3 (by kernel_rfl) (by decide) (by kernel_rfl) ?_
              intro i hi
              simp only [List.mem_cons, List.not_mem_nil, or_false] at hi
              subst hi
              refine ⟨_, rfl, fun K hK => ?_⟩
              have hob := HQ343.out.bk.ob
              rw [HBV.out, HEN.out] at hob
              go_wp2_with (first | (at_builtin; refine wpList_append_own_at _ rfl (.tmp 28) (.tmp 45) 62 rfl 0 22 i1 _ 1 24 Try.underlying62 hi1 hy0 hy1 hy2 rfl (by decide) _ _ _ rfl hob ⟨X342, 0, none⟩ 4 4 [.slice la k lc, .slice va325 (k + 1) vc326, .slice va333 (k + 2) vc334, .slice va338 (k + 3) vc339] rfl rfl ?ca3461 ?ca3462 ?ca3463 ?ca3464 ?ca3465 ?_))
              try (case ca3461 => exact HN344.out)
              try (case ca3462 => first | exact ⟨rfl, rfl, rfl, rfl⟩ | (intro u hu; simp only [List.mem_cons, List.not_mem_nil, or_false] at hu; rcases hu with rfl | rfl | rfl | rfl <;> rfl))
              try (case ca3463 => unfold maxLen; omega)
              try (case ca3464 => omega)
              try (case ca3465 => exact Nat.zero_le _)
              intro u5 wq345 r1 r2 _ r4
              obtain ⟨ua347, uc348, hu5⟩ := owns_shape r1
              subst hu5
              have cc : Ch (fun q => b.hb.ownBlock = some q) wq341 wq345 := (Ch.ofGrown r2).mono (fun x _ q => by rw [HBV.out]; exact q)
              have cK0 : wq345.cell? ⟨BK, 0, none⟩ = some (.slice ba N bc) := by
                have := cc.cell HQ343.out.bk.c0 (fun e => HQ343.out.bk.nK BK (.inl e) rfl)
                rw [HBV.out] at this
                exact this
              have fK0 : wq345.frozen? ⟨BK, 0, none⟩ = false := (cc.frozen (p := ⟨BK, 0, none⟩) (HQ343.out.bk.lt BK (.inl rfl)) (fun e => HQ343.out.bk.nK BK (.inl e) rfl)).trans (HQ343.out.bk.fz 0)
              have HR : Hid (RESB w BK b la lc k m (wq345.setCell ⟨BK, 0, none⟩ (.slice ua347 (N + 4) uc348))) := by
                have hrr := res_bytes HQ343.out HLT.out HBV.out HEN.out [(.slice la k lc, k), (.slice va325 (k + 1) vc326, k + 1), (.slice va333 (k + 2) vc334, k + 2), (.slice va338 (k + 3) vc339, k + 3)] (by intro r hr; simp only [List.mem_cons, List.not_mem_nil, or_false] at hr; rcases hr with rfl | rfl | rfl | rfl <;> simp) r1 r2 r4
                exact ⟨_, [(.slice la k lc, k), (.slice va325 (k + 1) vc326, k + 1), (.slice va333 (k + 2) vc334, k + 2), (.slice va338 (k + 3) vc339, k + 3)], hrr, rfl, by intro r hr; rw [List.mem_map] at hr; obtain ⟨y, _, rfl⟩ := hr; rfl⟩
              clear r1 r2 r4 cc HN344 hob HQ343
              (try go_wp2)
              refine ⟨rfl, hK _ _ (fun _ => cK0) ?_⟩
              clear hK K
              refine MixJ.many [23] 2 (by kernel_rfl) (by decide) (by kernel_rfl) ?_
              intro i hi
              simp only [List.mem_cons, List.not_mem_nil, or_false] at hi
              subst hi
              refine ⟨_, rfl, fun K hK => ?_⟩
              go_wp2
              refine ⟨rfl, hK _ _ (fun _ => cK0) ?_⟩
              clear hK K
              refine MixJ.many [24] 1 (by kernel_rfl) (by decide) (by kernel_rfl) ?_
              intro i hi
              simp only [List.mem_cons, List.not_mem_nil, or_false] at hi
              subst hi
              refine ⟨_, rfl, fun K hK => ?_⟩
              go_wp2
              refine ⟨rfl, hK _ _ (fun _ => cK0) ?_⟩
              clear hK K
              refine MixJ.many [25] 0 (by kernel_rfl) (by decide) (by kernel_rfl) ?_
              intro i hi
              simp only [List.mem_cons, List.not_mem_nil, or_false] at hi
              subst hi
              refine ⟨_, rfl, fun K hK => ?_⟩
              go_wp2
              refine ⟨rfl, hK _ _ (fun q => absurd rfl q) ?_⟩
              clear hK K
              refine MixJ.done (by kernel_rfl) ?_
              go_wp2
              go_meet
              exact HR
            · refine ⟨_, rfl, fun K hK => ?_⟩
              go_wp2
              obtain ⟨wq349, hwq349⟩ : ∃ x, x = wq320.alloc (.cells #[.int .u8 (m : Int), .int .u8 (m : Int)] 5) := ⟨_, rfl⟩
              obtain ⟨X350, hX350⟩ : ∃ x, x = wq320.heap.size := ⟨_, rfl⟩
              have HQ351 : Hid (ByS w BK b 5 [.int .u8 (m : Int)] (.slice la k lc) k 0 [] ((X350, 2) :: [(X321, 1), (X318, 3)]) wq349) := by
                rw [hwq349, hX350]
                exact HQ322.out.new 2 #[.int .u8 (m : Int), .int .u8 (m : Int)] 5 rfl
              rw [← hwq349, ← hX350]
              clear hwq349 hX350 HQ322
              refine ⟨rfl, hK _ _ (fun _ => by have := HQ351.out.bk.c0; rw [HBV.out] at this; exact this) ?_⟩
              clear hK K
              refine MixJ.many [9] 7 (by kernel_rfl) (by decide) (by kernel_rfl) ?_
              intro i hi
              simp only [List.mem_cons, List.not_mem_nil, or_false] at hi
              subst hi
              refine ⟨_, rfl, fun K hK => ?_⟩
              go_wp2_with (first | (at_builtin; refine append_fy rfl (.tmp 30) (.tmp 32) 22 rfl 0 5 i0 _ 1 [.int .u8 (m : Int)] Nat.zero_lt_one Try.underlying22 hi0 hz0 hz1 hz2 rfl (.slice la k lc) k 0 [] rfl HQ351.out.fy ⟨X321, 0, none⟩ 1 1 rfl (by decide) ?ca3561 ?ca3562 ?ca3563 ?ca3564 (Nat.zero_le _) ?_))
              try (case ca3561 => exact HQ351.out.news (by simp))
              try (case ca3562 => first | rfl | (intro u hu; rw [List.mem_singleton.1 hu]; rfl))
              try (case ca3563 => unfold maxLen; omega)
              try (case ca3564 => omega)
              intro v' wq352 ff
              obtain ⟨f1, f2, f3, f4⟩ := ff.out
              obtain ⟨va354, vc355, rfl⟩ := f4
              have HQ353 : Hid (ByS w BK b 5 [.int .u8 (m : Int)] (.slice la k lc) k 1 ([] ++ [(.slice va354 (k + 1) vc355, k + 1)]) [(X350, 2), (X321, 1), (X318, 3)] wq352) := HQ351.out.app f1 f2 f3
              clear ff f1 f2 f3 HQ351
              (try go_wp2)
              refine ⟨rfl, hK _ _ (fun _ => by have := HQ353.out.bk.c0; rw [HBV.out] at this; exact this) ?_⟩
              clear hK K
              refine MixJ.many [14] 6 (by kernel_rfl) (by decide) (by kernel_rfl) ?_
              intro i hi
              simp only [List.mem_cons, List.not_mem_nil, or_false] at hi
              subst hi
              refine ⟨_, rfl, fun K hK => ?_⟩
              go_wp2_with (first | (at_builtin; refine append_fy rfl (.tmp 34) (.tmp 37) 22 rfl 0 5 i0 _ 1 [.int .u8 (m : Int)] Nat.zero_lt_one Try.underlying22 hi0 hz0 hz1 hz2 rfl (.slice la k lc) k 1 [(.slice va354 (k + 1) vc355, k + 1)] rfl HQ353.out.fy ⟨X350, 0, none⟩ 2 2 rfl (by decide) ?ca3611 ?ca3612 ?ca3613 ?ca3614 (Nat.zero_le _) ?_))
              try (case ca3611 => exact HQ353.out.news (by simp))
              try (case ca3612 => first | rfl | (intro u hu; rw [List.mem_singleton.1 hu]; rfl))
              try (case ca3613 => unfold maxLen; omega)
              try (case ca3614 => omega)
              intro v' wq357 ff
              obtain ⟨f1, f2, f3, f4⟩ := ff.out
              obtain ⟨va359, vc360, rfl⟩ := f4
              have HQ358 : Hid (ByS w BK b 5 [.int .u8 (m : Int)] (.slice la k lc) k 2 ([(.slice va354 (k + 1) vc355, k + 1)] ++ [(.slice va359 (k + 2) vc360, k + 2)]) [(X350, 2), (X321, 1), (X318, 3)] wq357) := HQ353.out.app f1 f2 f3
              clear ff f1 f2 f3 HQ353
              (try go_wp2)
              refine ⟨rfl, hK _ _ (fun _ => by have := HQ358.out.bk.c0; rw [HBV.out] at this; exact this) ?_⟩
              clear hK K
              refine MixJ.many [20] 5 (by kernel_rfl) (by decide) (by kernel_rfl) ?_
              intro i hi
              simp only [List.mem_cons, List.not_mem_nil, or_false] at hi
              subst hi
              refine ⟨_, rfl, fun K hK => ?_⟩
              go_wp2_with (first | (at_builtin; refine append_fy rfl (.tmp 39) (.tmp 43) 22 rfl 0 5 i0 _ 1 [.int .u8 (m : Int)] Nat.zero_lt_one Try.underlying22 hi0 hz0 hz1 hz2 rfl (.slice la k lc) k 2 [(.slice va354 (k + 1) vc355, k + 1), (.slice va359 (k + 2) vc360, k + 2)] rfl HQ358.out.fy ⟨X318, 0, none⟩ 3 3 rfl (by decide) ?ca3661 ?ca3662 ?ca3663 ?ca3664 (Nat.zero_le _) ?_))
              try (case ca3661 => exact HQ358.out.news (by simp))
              try (case ca3662 => first | rfl | (intro u hu; rw [List.mem_singleton.1 hu]; rfl))
              try (case ca3663 => unfold maxLen; omega)
              try (case ca3664 => omega)
              intro v' wq362 ff
              obtain ⟨f1, f2, f3, f4⟩ := ff.out
              obtain ⟨va364, vc365, rfl⟩ := f4
              have HQ363 : Hid (ByS w BK b 5 [.int .u8 (m : Int)] (.slice la k lc) k 3 ([(.slice va354 (k + 1) vc355, k + 1), (.slice va359 (k + 2) vc360, k + 2)] ++ [(.slice va364 (k + 3) vc365, k + 3)]) [(X350, 2), (X321, 1), (X318, 3)] wq362) := HQ358.out.app f1 f2 f3
              clear ff f1 f2 f3 HQ358
              (try go_wp2)
              refine ⟨rfl, hK _ _ (fun _ => by have := HQ363.out.bk.c0; rw [HBV.out] at this; exact this) ?_⟩
              clear hK K
              refine MixJ.many [21] 4 (by kernel_rfl) (by decide) (by kernel_rfl) ?_
              intro i hi
              simp only [List.mem_cons, List.not_mem_nil, or_false] at hi
              subst hi
              refine ⟨_, rfl, fun K hK => ?_⟩
              go_wp2
              have hN4 := fourW wq362 (.slice la k lc) (.slice va354 (k + 1) vc355) (.slice va359 (k + 2) vc360) (.slice va364 (k + 3) vc365) 22
              obtain ⟨wq367, hwq367⟩ : ∃ x, x = wq362.alloc (.cells #[.slice la k lc, .slice va354 (k + 1) vc355, .slice va359 (k + 2) vc360, .slice va364 (k + 3) vc365] 22) := ⟨_, rfl⟩
              obtain ⟨X368, hX368⟩ : ∃ x, x = wq362.heap.size := ⟨_, rfl⟩
              have HQ369 : Hid (ByS w BK b 5 [.int .u8 (m : Int)] (.slice la k lc) k 3 [(.slice va354 (k + 1) vc355, k + 1), (.slice va359 (k + 2) vc360, k + 2), (.slice va364 (k + 3) vc365, k + 3)] [] wq367) := by
                rw [hwq367]
                exact (HQ363.out.weak (A' := []) (fun r hr => hr) (fun p hp => by simp at hp)).below ((Below.refl _ _).alloc (Nat.le_refl _) _)
              rw [← hwq367, ← hX368] at hN4
              have HN370 : Hid (∀ j u, ([.slice la k lc, .slice va354 (k + 1) vc355, .slice va359 (k + 2) vc360, .slice va364 (k + 3) vc365] : List Value)[j]? = some u → wq367.cell? ((⟨X368, 0, none⟩ : Addr).add j) = some u) := hN4
              rw [← hwq367, ← hX368]
              clear hwq367 hX368 HQ363 hN4
              refine ⟨rfl, hK _ _ (fun _ => by have := HQ369.out.bk.c0; rw [HBV.out] at this; exact this) ?_⟩
              clear hK K
              refine MixJ.many [22] 3 (by kernel_rfl) (by decide) (by kernel_rfl) ?_
              intro i hi
              simp only [List.mem_cons, List.not_mem_nil, or_false] at hi
              subst hi
              refine ⟨_, rfl, fun K hK => ?_⟩
              have hob := HQ369.out.bk.ob
              rw [HBV.out, HEN.out] at hob
              go_wp2_with (first | (at_builtin; refine wpList_append_own_at _ rfl (.tmp 28) (.tmp 45) 62 rfl 0 22 i1 _ 1 24 Try.underlying62 hi1 hy0 hy1 hy2 rfl (by decide) _ _ _ rfl hob ⟨X368, 0, none⟩ 4 4 [.slice la k lc, .slice va354 (k + 1) vc355, .slice va359 (k + 2) vc360, .slice va364 (k + 3) vc365] rfl rfl ?ca3721 ?ca3722 ?ca3723 ?ca3724 ?ca3725 ?_))
              try (case ca3721 => exact HN370.out)
              try (case ca3722 => first | exact ⟨rfl, rfl, rfl, rfl⟩ | (intro u hu; simp only [List.mem_cons, List.not_mem_nil, or_false] at hu; rcases hu with rfl | rfl | rfl | rfl <;> rfl))
              try (case ca3723 => unfold maxLen; omega)
              try (case ca3724 => omega)
              try (case ca3725 => exact Nat.zero_le _)
              intro u5 wq371 r1 r2 _ r4
              obtain ⟨ua373, uc374, hu5⟩ := owns_shape r1
              subst hu5
              have cc : Ch (fun q => b.hb.ownBlock = some q) wq367 wq371 := (Ch.ofGrown r2).mono (fun x _ q => by rw [HBV.out]; exact q)
              have cK0 : wq371.cell? ⟨BK, 0, none⟩ = some (.slice ba N bc) := by
                have := cc.cell HQ369.out.bk.c0 (fun e => HQ369.out.bk.nK BK (.inl e) rfl)
                rw [HBV.out] at this
                exact this
              have fK0 : wq371.frozen? ⟨BK, 0, none⟩ = false := (cc.frozen (p := ⟨BK, 0, none⟩) (HQ369.out.bk.lt BK (.inl rfl)) (fun e => HQ369.out.bk.nK BK (.inl e) rfl)).trans (HQ369.out.bk.fz 0)
              have HR : Hid (RESB w BK b la lc k m (wq371.setCell ⟨BK, 0, none⟩ (.slice ua373 (N + 4) uc374))) := by
                have hrr := res_bytes HQ369.out HLT.out HBV.out HEN.out [(.slice la k lc, k), (.slice va354 (k + 1) vc355, k + 1), (.slice va359 (k + 2) vc360, k + 2), (.slice va364 (k + 3) vc365, k + 3)] (by intro r hr; simp only [List.mem_cons, List.not_mem_nil, or_false] at hr; rcases hr with rfl | rfl | rfl | rfl <;> simp) r1 r2 r4
                exact ⟨_, [(.slice la k lc, k), (.slice va354 (k + 1) vc355, k + 1), (.slice va359 (k + 2) vc360, k + 2), (.slice va364 (k + 3) vc365, k + 3)], hrr, rfl, by intro r hr; rw [List.mem_map] at hr; obtain ⟨y, _, rfl⟩ := hr; rfl⟩
              clear r1 r2 r4 cc HN370 hob HQ369
              (try go_wp2)
              refine ⟨rfl, hK _ _ (fun _ => cK0) ?_⟩
              clear hK K
              refine MixJ.many [23] 2 (by kernel_rfl) (by decide) (by kernel_rfl) ?_
              intro i hi
              simp only [List.mem_cons, List.not_mem_nil, or_false] at hi
              subst hi
              refine ⟨_, rfl, fun K hK => ?_⟩
              go_wp2
              refine ⟨rfl, hK _ _ (fun _ => cK0) ?_⟩
              clear hK K
              refine MixJ.many [24] 1 (by kernel_rfl) (by decide) (by kernel_rfl) ?_
              intro i hi
              simp only [List.mem_cons, List.not_mem_nil, or_false] at hi
              subst hi
              refine ⟨_, rfl, fun K hK => ?_⟩
              go_wp2
              refine ⟨rfl, hK _ _ (fun _ => cK0) ?_⟩
              clear hK K
              refine MixJ.many [25] 0 (by kernel_rfl) (by decide) (by kernel_rfl) ?_
              intro i hi
              simp only [List.mem_cons, List.not_mem_nil, or_false] at hi
              subst hi
              refine ⟨_, rfl, fun K hK => ?_⟩
              go_wp2
              refine ⟨rfl, hK _ _ (fun q => absurd rfl q) ?_⟩
              clear hK K
              refine MixJ.done (by kernel_rfl) ?_
              go_wp2
              go_meet
              exact HR
          · refine ⟨_, rfl, fun K hK => ?_⟩
            go_wp2
            obtain ⟨wq375, hwq375⟩ : ∃ x, x = wq317.alloc (.cells #[.int .u8 (m : Int), .int .u8 (m : Int)] 5) := ⟨_, rfl⟩
            obtain ⟨X376, hX376⟩ : ∃ x, x = wq317.heap.size := ⟨_, rfl⟩
            have HQ377 : Hid (ByS w BK b 5 [.int .u8 (m : Int)] (.slice la k lc) k 0 [] ((X376, 2) :: [(X318, 3)]) wq375) := by
              rw [hwq375, hX376]
              exact HQ319.out.new 2 #[.int .u8 (m : Int), .int .u8 (m : Int)] 5 rfl
            rw [← hwq375, ← hX376]
            clear hwq375 hX376 HQ319
            refine ⟨rfl, hK _ _ (fun _ => by have := HQ377.out.bk.c0; rw [HBV.out] at this; exact this) ?_⟩
            clear hK K
            refine MixJ.many [8] 8 (by kernel_rfl) (by decide) (by kernel_rfl) ?_
            intro i hi
            simp only [List.mem_cons, List.not_mem_nil, or_false] at hi
            subst hi
            refine ⟨_, rfl, fun K hK => ?_⟩
            go_wp2
            obtain ⟨wq378, hwq378⟩ : ∃ x, x = wq375.alloc (.cells #[.int .u8 (m : Int)] 5) := ⟨_, rfl⟩
            obtain ⟨X379, hX379⟩ : ∃ x, x = wq375.heap.size := ⟨_, rfl⟩
            have HQ380 : Hid (ByS w BK b 5 [.int .u8 (m : Int)] (.slice la k lc) k 0 [] ((X379, 1) :: [(X376, 2), (X318, 3)]) wq378) := by
              rw [hwq378, hX379]
              exact HQ377.out.new 1 #[.int .u8 (m : Int)] 5 rfl
            rw [← hwq378, ← hX379]
            clear hwq378 hX379 HQ377
            refine ⟨rfl, hK _ _ (fun _ => by have := HQ380.out.bk.c0; rw [HBV.out] at this; exact this) ?_⟩
            clear hK K
            refine MixJ.many [9] 7 (by kernel_rfl) (by decide) (by kernel_rfl) ?_
            intro i hi
            simp only [List.mem_cons, List.not_mem_nil, or_false] at hi
            subst hi
            refine ⟨_, rfl, fun K hK => ?_⟩
            go_wp2_with (first | (at_builtin; refine append_fy rfl (.tmp 30) (.tmp 32) 22 rfl 0 5 i0 _ 1 [.int .u8 (m : Int)] Nat.zero_lt_one Try.underlying22 hi0 hz0 hz1 hz2 rfl (.slice la k lc) k 0 [] rfl HQ380.out.fy ⟨X379, 0, none⟩ 1 1 rfl (by decide) ?ca3851 ?ca3852 ?ca3853 ?ca3854 (Nat.zero_le _) ?_))
            try (case ca3851 => exact HQ380.out.news (by simp))
            try (case ca3852 => first | rfl | (intro u hu; rw [List.mem_singleton.1 hu]; rfl))
            try (case ca3853 => unfold maxLen; omega)
            try (case ca3854 => omega)
            intro v' wq381 ff
            obtain ⟨f1, f2, f3, f4⟩ := ff.out
            obtain ⟨va383, vc384, rfl⟩ := f4
            have HQ382 : Hid (ByS w BK b 5 [.int .u8 (m : Int)] (.slice la k lc) k 1 ([] ++ [(.slice va383 (k + 1) vc384, k + 1)]) [(X379, 1), (X376, 2), (X318, 3)] wq381) := HQ380.out.app f1 f2 f3
            clear ff f1 f2 f3 HQ380
            (try go_wp2)
            refine ⟨rfl, hK _ _ (fun _ => by have := HQ382.out.bk.c0; rw [HBV.out] at this; exact this) ?_⟩
            clear hK K
            refine MixJ.many [14] 6 (by kernel_rfl) (by decide) (by kernel_rfl) ?_
            intro i hi
            simp only [List.mem_cons, List.not_mem_nil, or_false] at hi
            subst hi
            refine ⟨_, rfl, fun K hK => ?_⟩
            go_wp2_with (first | (at_builtin; refine append_fy rfl (.tmp 34) (.tmp 37) 22 rfl 0 5 i0 _ 1 [.int .u8 (m : Int)] Nat.zero_lt_one Try.underlying22 hi0 hz0 hz1 hz2 rfl (.slice la k lc) k 1 [(.slice va383 (k + 1) vc384, k + 1)] rfl HQ382.out.fy ⟨X376, 0, none⟩ 2 2 rfl (by decide) ?ca3901 ?ca3902 ?ca3903 ?ca3904 (Nat.zero_le _) ?_))
            try (case ca3901 => exact HQ382.out.news (by simp))
            try (case ca3902 => first | rfl | (intro u hu; rw [List.mem_singleton.1 hu]; rfl))
            try (case ca3903 => unfold maxLen; omega)
            try (case ca3904 => omega)
            intro v' wq386 ff
            obtain ⟨f1, f2, f3, f4⟩ := ff.out
            obtain ⟨va388, vc389, rfl⟩ := f4
            have HQ387 : Hid (ByS w BK b 5 [.int .u8 (m : Int)] (.slice la k lc) k 2 ([(.slice va383 (k + 1) vc384, k + 1)] ++ [(.slice va388 (k + 2) vc389, k + 2)]) [(X379, 1), (X376, 2), (X318, 3)] wq386) := HQ382.out.app f1 f2 f3
            clear ff f1 f2 f3 HQ382
            (try go_wp2)
            refine ⟨rfl, hK _ _ (fun _ => by have := HQ387.out.bk.c0; rw [HBV.out] at this; exact this) ?_⟩
            clear hK K
            refine MixJ.many [20] 5 (by kernel_rfl) (by decide) (by kernel_rfl) ?_
            intro i hi
            simp only [List.mem_cons, List.not_mem_nil, or_false] at hi
            subst hi
            refine ⟨_, rfl, fun K hK => ?_⟩
            go_wp2_with (first | (at_builtin; refine append_fy rfl (.tmp 39) (.tmp 43) 22 rfl 0 5 i0 _ 1 [.int .u8 (m : Int)] Nat.zero_lt_one Try.underlying22 hi0 hz0 hz1 hz2 rfl (.slice la k lc) k 2 [(.slice va383 (k + 1) vc384, k + 1), (.slice va388 (k + 2) vc389, k + 2)] rfl HQ387.out.fy ⟨X318, 0, none⟩ 3 3 rfl (by decide) ?ca3951 ?ca3952 ?ca3953 ?ca3954 (Nat.zero_le _) ?_))
            try (case ca3951 => exact HQ387.out.news (by simp))
            try (case ca3952 => first | rfl | (intro u hu; rw [List.mem_singleton.1 hu]; rfl))
            try (case ca3953 => unfold maxLen; omega)
            try (case ca3954 => omega)
            intro v' wq391 ff
            obtain ⟨f1, f2, f3, f4⟩ := ff.out
            obtain ⟨va393, vc394, rfl⟩ := f4
            have HQ392 : Hid (ByS w BK b 5 [.int .u8 (m : Int)] (.slice la k lc) k 3 ([(.slice va383 (k + 1) vc384, k + 1), (.slice va388 (k + 2) vc389, k + 2)] ++ [(.slice va393 (k + 3) vc394, k + 3)]) [(X379, 1), (X376, 2), (X318, 3)] wq391) := HQ387.out.app f1 f2 f3
            clear ff f1 f2 f3 HQ387
            (try go_wp2)
            refine ⟨rfl, hK _ _ (fun _ => by have := HQ392.out.bk.c0; rw [HBV.out] at this; exact this) ?_⟩
            clear hK K
            refine MixJ.many [21] 4 (by kernel_rfl) (by decide) (by kernel_rfl) ?_
            intro i hi
            simp only [List.mem_cons, List.not_mem_nil, or_false] at hi
            subst hi
            refine ⟨_, rfl, fun K hK => ?_⟩
            go_wp2
            have hN4 := fourW wq391 (.slice la k lc) (.slice va383 (k + 1) vc384) (.slice va388 (k + 2) vc389) (.slice va393 (k + 3) vc394) 22
            obtain ⟨wq396, hwq396⟩ : ∃ x, x = wq391.alloc (.cells #[.slice la k lc, .slice va383 (k + 1) vc384, .slice va388 (k + 2) vc389, .slice va393 (k + 3) vc394] 22) := ⟨_, rfl⟩
            obtain ⟨X397, hX397⟩ : ∃ x, x = wq391.heap.size := ⟨_, rfl⟩
            have HQ398 : Hid (ByS w BK b 5 [.int .u8 (m : Int)] (.slice la k lc) k 3 [(.slice va383 (k + 1) vc384, k + 1), (.slice va388 (k + 2) vc389, k + 2), (.slice va393 (k + 3) vc394, k + 3)] [] wq396) := by
              rw [hwq396]
              exact (HQ392.out.weak (A' := []) (fun r hr => hr) (fun p hp => by simp at hp)).below ((Below.refl _ _).alloc (Nat.le_refl _) _)
            rw [← hwq396, ← hX397] at hN4
            have HN399 : Hid (∀ j u, ([.slice la k lc, .slice va383 (k + 1) vc384, .slice va388 (k + 2) vc389, .slice va393 (k + 3) vc394] : List Value)[j]? = some u → wq396.cell? ((⟨X397, 0, none⟩ : Addr).add j) = some u) := hN4
            rw [← hwq396, ← hX397]
            clear hwq396 hX397 HQ392 hN4
            refine ⟨rfl, hK _ _ (fun _ => by have := HQ398.out.bk.c0; rw [HBV.out] at this; exact this) ?_⟩
            clear hK K
            refine MixJ.many [22] 3 (by kernel_rfl) (by decide) (by kernel_rfl) ?_
            intro i hi
            simp only [List.mem_cons, List.not_mem_nil, or_false] at hi
            subst hi
            refine ⟨_, rfl, fun K hK => ?_⟩
            have hob := HQ398.out.bk.ob
            rw [HBV.out, HEN.out] at hob
            go_wp2_with (first | (at_builtin; refine wpList_append_own_at _ rfl (.tmp 28) (.tmp 45) 62 rfl 0 22 i1 _ 1 24 Try.underlying62 hi1 hy0 hy1 hy2 rfl (by decide) _ _ _ rfl hob ⟨X397, 0, none⟩ 4 4 [.slice la k lc, .slice va383 (k + 1) vc384, .slice va388 (k + 2) vc389, .slice va393 (k + 3) vc394] rfl rfl ?ca4011 ?ca4012 ?ca4013 ?ca4014 ?ca4015 ?_))
            try (case ca4011 => exact HN399.out)
            try (case ca4012 => first | exact ⟨rfl, rfl, rfl, rfl⟩ | (intro u hu; simp only [List.mem_cons, List.not_mem_nil, or_false] at hu; rcases hu with rfl | rfl | rfl | rfl <;> rfl))
            try (case ca4013 => unfold maxLen; omega)
            try (case ca4014 => omega)
            try (case ca4015 => exact Nat.zero_le _)
            intro u5 wq400 r1 r2 _ r4
            obtain ⟨ua402, uc403, hu5⟩ := owns_shape r1
            subst hu5
            have cc : Ch (fun q => b.hb.ownBlock = some q) wq396 wq400 := (Ch.ofGrown r2).mono (fun x _ q => by rw [HBV.out]; exact q)
            have cK0 : wq400.cell? ⟨BK, 0, none⟩ = some (.slice ba N bc) := by
              have := cc.cell HQ398.out.bk.c0 (fun e => HQ398.out.bk.nK BK (.inl e) rfl)
              rw [HBV.out] at this
              exact this
            have fK0 : wq400.frozen? ⟨BK, 0, none⟩ = false := (cc.frozen (p := ⟨BK, 0, none⟩) (HQ398.out.bk.lt BK (.inl rfl)) (fun e => HQ398.out.bk.nK BK (.inl e) rfl)).trans (HQ398.out.bk.fz 0)
            have HR : Hid (RESB w BK b la lc k m (wq400.setCell ⟨BK, 0, none⟩ (.slice ua402 (N + 4) uc403))) := by
              have hrr := res_bytes HQ398.out HLT.out HBV.out HEN.out [(.slice la k lc, k), (.slice va383 (k + 1) vc384, k + 1), (.slice va388 (k + 2) vc389, k + 2), (.slice va393 (k + 3) vc394, k + 3)] (by intro r hr; simp only [List.mem_cons, List.not_mem_nil, or_false] at hr; rcases hr with rfl | rfl | rfl | rfl <;> simp) r1 r2 r4
              exact ⟨_, [(.slice la k lc, k), (.slice va383 (k + 1) vc384, k + 1), (.slice va388 (k + 2) vc389, k + 2), (.slice va393 (k + 3) vc394, k + 3)], hrr, rfl, by intro r hr; rw [List.mem_map] at hr; obtain ⟨y, _, rfl⟩ := hr; rfl⟩
            clear r1 r2 r4 cc HN399 hob HQ398
            (try go_wp2)
            refine ⟨rfl, hK _ _ (fun _ => cK0) ?_⟩
            clear hK K
            refine MixJ.many [23] 2 (by kernel_rfl) (by decide) (by kernel_rfl) ?_
            intro i hi
            simp only [List.mem_cons, List.not_mem_nil, or_false] at hi
            subst hi
            refine ⟨_, rfl, fun K hK => ?_⟩
            go_wp2
            refine ⟨rfl, hK _ _ (fun _ => cK0) ?_⟩
            clear hK K
            refine MixJ.many [24] 1 (by kernel_rfl) (by decide) (by kernel_rfl) ?_
            intro i hi
            simp only [List.mem_cons, List.not_mem_nil, or_false] at hi
            subst hi
            refine ⟨_, rfl, fun K hK => ?_⟩
            go_wp2
            refine ⟨rfl, hK _ _ (fun _ => cK0) ?_⟩
            clear hK K
            refine MixJ.many [25] 0 (by kernel_rfl) (by decide) (by kernel_rfl) ?_
            intro i hi
            simp only [List.mem_cons, List.not_mem_nil, or_false] at hi
            subst hi
            refine ⟨_, rfl, fun K hK => ?_⟩
            go_wp2
            refine ⟨rfl, hK _ _ (fun q => absurd rfl q) ?_⟩
            clear hK K
            refine MixJ.done (by kernel_rfl) ?_
            go_wp2
            go_meet
            exact HR
      case rest =>
        obtain ⟨u, vs, ⟨r1, r2, r3⟩, hv4, _⟩ := hcut.out
        obtain ⟨b1, hb1⟩ : ∃ b1, b1 = ({ b with hb := u, E := b.E ++ vs.map (fun r => (r.1, r.2, m)) } : BV) := ⟨_, rfl⟩
        rw [← hb1] at r1 r3
        have hml : b1.Mb.length = N := by rw [hb1, ← HEN.out]; simp only; rw [HE.out.1, List.length_map]
        obtain ⟨ma, mc, hmv⟩ := owns_shape r1.om
        rw [hml] at hmv
        have c2 := r1.c2
        rw [hmv] at c2
        have hom := r1.om
        rw [hmv, hml] at hom
        have HB1 : Hid (BkM wc BK b1) := r1
        have HMV : Hid (b1.hm = .slice ma N mc ∧ b1.Mb.length = N) := ⟨hmv, hml⟩
        have HX : Hid (Ch (fun x => BB BK b x ∨ (Value.slice la k lc).ownBlock = some x) w wc ∧ (∀ x, BB BK b1 x → BB BK b x ∨ (Value.slice la k lc).ownBlock = some x ∨ w.heap.size ≤ x)) := ⟨r2, r3⟩
        have HVB : Hid (vs.length = 4 ∧ b1 = ({ b with hb := u, E := b.E ++ vs.map (fun r => (r.1, r.2, m)) } : BV)) := ⟨hv4, hb1⟩
        clear r1 r2 r3 hv4 hb1 hml hmv hcut H1 H
        go_wp2_with (first | (at_builtin; refine wpList_append_own_at _ rfl (.tmp 53) (.tmp 58) 22 rfl 0 5 i0 _ 1 1 Try.underlying22 hi0 hz0 hz1 hz2 rfl (by decide) _ _ _ rfl (hom.alloc _) ⟨wc.heap.size, 0, none⟩ 4 4 [.int .u8 (m : Int), .int .u8 (m : Int), .int .u8 (m : Int), .int .u8 (m : Int)] rfl rfl ?zz1 ?zz2 ?zz3 ?zz4 ?zz5 ?_))
        try (case zz1 => exact fourW _ _ _ _ _ _)
        try (case zz2 => first | exact ⟨rfl, rfl, rfl, rfl⟩ | rfl | (intro u hu; simp only [List.mem_cons, List.not_mem_nil, or_false] at hu; rcases hu with rfl | rfl | rfl | rfl <;> rfl))
        try (case zz3 => unfold maxLen; omega)
        try (case zz4 => omega)
        try (case zz5 => exact Nat.zero_le _)
        intro u5 w5 s1 s2 _ s4
        obtain ⟨ua, uc, hu5⟩ := owns_shape s1
        subst hu5
        have hal : Below wc.heap.size wc (wc.alloc (.cells #[.int .u8 (m : Int), .int .u8 (m : Int), .int .u8 (m : Int), .int .u8 (m : Int)] 5)) := (Below.refl _ _).alloc (Nat.le_refl _) _
        have hba := HB1.out.below hal
        obtain ⟨q1, q2, q3⟩ := res_marks hba HMV.out.1 HMV.out.2 [m, m, m, m] s1 s2 (by simp only [World.size_alloc]; exact s4)
        have cK2 : ∃ z, w5.cell? ⟨BK, 2, none⟩ = some z := ⟨_, (Ch.ofGrown s2).cell (World.cell?_of_block (hal.block BK (HB1.out.lt BK (.inl rfl))) |>.trans c2) (fun e => HB1.out.nK BK (.inr (.inr (.inl (by rw [HMV.out.1]; exact e)))) rfl)⟩
        obtain ⟨zK, cK2⟩ := cK2
        have fK2 : w5.frozen? ⟨BK, 2, none⟩ = false := ((Ch.ofGrown s2).frozen (p := ⟨BK, 2, none⟩) (Nat.lt_of_lt_of_le (HB1.out.lt BK (.inl rfl)) hal.size) (fun e => HB1.out.nK BK (.inr (.inr (.inl (by rw [HMV.out.1]; exact e)))) rfl)).trans (hba.fz 2)
        have HD : Hid (BkD w BK b (own_ la k lc) (w5.setCell ⟨BK, 2, none⟩ (.slice ua (N + 4) uc))) := by
          have hsz := HX.out.1.size
          have hsz2 := hal.size
          refine ⟨_, q1, ?_, ?_, ?_, ?_, ?_, ?_⟩
          · have e := HVB.out.2
            rw [e]
            show b.Mb ++ [m, m, m, m] = _
            rw [HE.out.1, List.map_append, List.map_map]
            congr 1
            have e2 : vs.map ((fun r : Value × Nat × Nat => r.2.2) ∘ fun r : Value × Nat => (r.1, r.2, m)) = List.replicate vs.length m := by
              rw [← List.map_const]
              rfl
            rw [e2, HVB.out.1]
            rfl
          · rw [HVB.out.2]
            exact HE.out.2
          · rw [HVB.out.2]
            show (b.E ++ _).length ≤ _
            rw [List.length_append, List.length_map, HVB.out.1]
            exact Nat.le_refl _
          · rw [HVB.out.2]
            exact Nat.le_add_right _ _
          · intro x hx
            rcases q3 x hx with z | z
            · exact HX.out.2 x z
            · exact .inr (.inr (by omega))
          · refine (HX.out.1.trans (Ch.ofBelow (S := fun _ => False) hal) (fun _ _ z => z.elim)).trans q2 (fun x hx z => ?_)
            rcases HX.out.2 x z with y | y | y
            · exact .inl y
            · exact .inr y
            · omega
        clear q1 q2 q3 s1 s2 s4 hba hal hom c2 HB1 HX HVB
        go_wp2
        go_end0
        exact ⟨rfl, HD.out⟩
    · have d0 : (k : Int) < (n : Int) := by omega
      obtain ⟨g, hga⟩ : ∃ g, la = some ⟨g, 0, none⟩ := by
        rcases HK.out.1.2 with ⟨_, e2⟩ | ⟨g, cap, cur, e1, _⟩
        · omega
        · simp only [Value.slice.injEq, true_and] at e1
          exact ⟨g, e1.1⟩
      subst hga
      have hkn : k < n := by omega
      have cg : ∃ z, wr.cell? ⟨g, k, none⟩ = some z := by
        rw [HK.out.1.cellAt k (by omega), List.getElem?_eq_getElem (by have := HK.out.1.1; omega)]
        exact ⟨_, rfl⟩
      obtain ⟨zz, cg⟩ := cg
      have fg := HK.out.1.frozenAt k
      have HK2 : Hid ((wr.setCell ⟨g, k, none⟩ (.int .u8 (m : Int))).ownsRow 0 5 1 (.slice (some ⟨g, 0, none⟩) n lc) n (rep (k + 1) [.int .u8 (m : Int)] ++ xs.drop (k + 1)) ∧ Ch (fun q => (Value.slice (some ⟨g, 0, none⟩) n lc).ownBlock = some q) w (wr.setCell ⟨g, k, none⟩ (.int .u8 (m : Int)))) := ⟨row_fill HK.out.1 HXL.out hkn, HK.out.2.set _ _ rfl⟩
      clear hge HK
      go_wp2
      go_roundw
      case rel => exact ⟨k + 1, hkn, by go_num, HK2⟩
      case measure => simp [intOf]; omega
end H11
end Go.Proofs.Ytcoaghcmbhogjaa
