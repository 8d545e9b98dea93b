/-
  weirlaw4.AddrForms: the walk.
-/
import Derived.Test.YtfeabifjnihooaaDoorAdV4
import Derived.Test.YtfeabifjnihooaaDoorMixJ
namespace Go.Proofs.YtfeabifjnihooaaDoor
open Go.RowKit Go.Maps

theorem wpList_eql_ipb {ops : Array Oper} {rest : List Oper} {o : Oper} {a : Act} {w : World} {Q : Exit → Act → World → Prop} (X Y : Operand) (ho : o.op = .binOp .eql 27 X Y 27) (V U : Int) (x y : Nat → Nat) (hx : a.eval X = .agg (ipCells V x)) (hy : a.eval Y = .agg (ipCells U y)) (b : Bool) (hbb : (V == U && same16 x y) = b)
    (hw : Region.wanted o (yielded ops a.tmps) = true) (h : wpList Tryd.prog ops Q rest (a.put o.dst (.bool b)) w) : wpList Tryd.prog ops Q (o :: rest) a w := by
  subst hbb
  exact wpList_eql_ip X Y ho V U x y hx hy hw h
theorem run_bip6 (V : Int) (f : Nat → Nat) (w : World) : (Instr.build 27 #[(0, .int .i64 V), (1, .agg (arCells f))]).run Tryd.prog w = .ok (.agg (ipCells V f)) w := by kernel_rfl
theorem wpList_bip6 {ops : Array Oper} {rest : List Oper} {o : Oper} {a_ : Act} {w : World} {Q : Exit → Act → World → Prop} (y0 y1 : Operand) (ho : o.op = .build 27 #[(0, y0), (1, y1)]) (V : Int) (f : Nat → Nat) (h0 : a_.eval y0 = .int .i64 V) (h1 : a_.eval y1 = .agg (arCells f)) (hw : Region.wanted o (yielded ops a_.tmps) = true)
    (h : wpList Tryd.prog ops Q rest (a_.put o.dst (.agg (ipCells V f))) w) : wpList Tryd.prog ops Q (o :: rest) a_ w := by
  refine wpList_step fun K hK => ?_
  rw [if_pos hw]
  have hrun : (execOp a_.eval o).run Tryd.prog w = .ok (.value (.agg (ipCells V f))) w := by
    obtain ⟨dst, op, type, pos, after, guard⟩ := o
    simp only at ho
    subst ho
    simp only [execOp, Sem.run_bind, List.map_toArray, List.map_cons, List.map_nil, h0, h1, run_bip6 V f w, Result.andThen_ok]
    rfl
  unfold Oper.wp
  rw [hrun]
  exact hK _ _ h
set_option maxHeartbeats 4000000 in
set_option maxRecDepth 100000 in
theorem addrForms.walk (w : World) (hT : Gl4 w) (x : Nat → Nat) (hx : ∀ i, i < 16 → x i < 256) (wa : Option Addr) (wn wc : Nat) (zs : List Int) (hz : IsRow .i64 w wa wn wc zs) (i j : Int) (tail : Bool) : Calls Tryd.prog 3 #[.agg (arCells x), .slice wa wn wc, .int .i64 i, .int .i64 j, .bool tail] w fun r w' => r = .returned (.bool true) ∧ Below w.heap.size w w' := by
  obtain ⟨ys, hyl, hys, _, _, _⟩ := hz.seg
  have HTT : Hid (Gl4 w) := hT
  have HX : Hid (∀ i, i < 16 → x i < 256) := hx
  have HY : Hid (ys.length = wn ∧ Seg .i64 w wa ys) := ⟨hyl, hys⟩
  clear hT hx hz hyl hys
  have hb := ar_new w x
  have bel : Below w.heap.size w (w.alloc (.cells (arCells x) 22)) := (Below.refl _ _).alloc (Nat.le_refl _) _
  obtain ⟨CX, hC⟩ : ∃ C, C = arCells x := ⟨_, rfl⟩
  obtain ⟨W, hW⟩ : ∃ W_, W_ = w.alloc (.cells (arCells x) 22) := ⟨_, rfl⟩
  rw [← hW] at hb bel
  obtain ⟨B, hB⟩ : ∃ B, B = w.heap.size := ⟨_, rfl⟩
  rw [← hB] at hb
  have HBX : Hid (AryAt W B x ∧ Below w.heap.size w W) := ⟨hb, bel⟩
  rw [← hC] at hW ⊢
  have HOX : Hid (w.heap.size = B) := hB.symm
  have HWX : Hid (w.alloc (.cells CX 22) = W) := hW.symm
  clear hb hW hB hC bel
  go_enter Tryd.func3, Tryd.ntmps3
  go_upto_region 1 with fail
  rw [HOX.out, HWX.out]
  cases tail with
  | false =>
    go_upto_region 4 with fail
    go_cut [31] (fun u wx => u = .bool (decide (i < 0 ∨ (8 : Int) < j ∨ j ≤ i)) ∧ W = wx)
    case first =>
      by_cases h1 : i < 0
      · have HD : Hid (decide (i < 0 ∨ (8 : Int) < j ∨ j ≤ i) = true) := decide_eq_true (.inl h1)
        have d1 : decide (i < 0) = true := decide_eq_true h1
        go_wp2
        go_meet
        exact ⟨by rw [HD.out], rfl⟩
      · have d1 : decide (i < 0) = false := decide_eq_false h1
        by_cases h2 : (8 : Int) < j
        · have HD : Hid (decide (i < 0 ∨ (8 : Int) < j ∨ j ≤ i) = true) := decide_eq_true (.inr (.inl h2))
          have d2 : decide (j > (8 : Int)) = true := decide_eq_true h2
          go_wp2
          go_meet
          exact ⟨by rw [HD.out], rfl⟩
        · have d2 : decide (j > (8 : Int)) = false := decide_eq_false h2
          by_cases h3 : j ≤ i
          · have HD : Hid (decide (i < 0 ∨ (8 : Int) < j ∨ j ≤ i) = true) := decide_eq_true (.inr (.inr h3))
            have d3 : decide (i ≥ j) = true := decide_eq_true h3
            go_wp2
            go_meet
            exact ⟨by rw [HD.out], rfl⟩
          · have HD : Hid (decide (i < 0 ∨ (8 : Int) < j ∨ j ≤ i) = false) := decide_eq_false (by omega)
            have d3 : decide (i ≥ j) = false := decide_eq_false h3
            go_wp2
            go_meet
            exact ⟨by rw [HD.out], rfl⟩
    case rest =>
      obtain ⟨rfl, rfl⟩ := hcut
      go_upto_if 31 with fail
      go_cut [2, 3] (fun u v wx => ∃ I J : Nat, u = .int .i64 (I : Int) ∧ v = .int .i64 (J : Int) ∧ Hid (FOk 8 I J) ∧ W = wx)
      case first =>
        by_cases h0 : i < 0 ∨ (8 : Int) < j ∨ j ≤ i
        · rw [decide_eq_true h0]
          clear h0
          go_wp2
          go_meet
          exact ⟨8, 8, rfl, rfl, .inr ⟨rfl, rfl⟩, rfl⟩
        · rw [decide_eq_false h0]
          have HI : Hid (i = (i.toNat : Int) ∧ j = (j.toNat : Int) ∧ FOk 8 i.toNat j.toNat) := ⟨by omega, by omega, .inl (by omega)⟩
          clear h0
          go_wp2
          go_meet
          exact ⟨i.toNat, j.toNat, by rw [← HI.out.1], by rw [← HI.out.2.1], HI.out.2.2, rfl⟩
      case rest =>
        obtain ⟨I0, J0, rfl, rfl, HF0, rfl⟩ := hcut
        go_wp2
        go_loopw [12, 2, 3] (fun u v z wr => ∃ (k I J : Nat), u = .int .i64 (k : Int) ∧ v = .int .i64 (I : Int) ∧ z = .int .i64 (J : Int) ∧ Hid (FOk 8 I J ∧ k ≤ 8 ∧ Zr x I J k) ∧ wr = W) (fun u _ _ _ => 8 - (intOf u).toNat)
        case atStart => exact ⟨I0, I0, J0, rfl, rfl, rfl, ⟨HF0.out, by rcases HF0.out with h | h <;> omega, fun m h1 h2 => by omega⟩, rfl⟩
        case round =>
          obtain ⟨k, I, J, rfl, rfl, rfl, HL, rfl⟩ := hrel
          by_cases hlt : k < J
          · have HK : Hid (k < 8 ∧ k < J) := ⟨by rcases HL.out.1 with h | h <;> omega, hlt⟩
            obtain ⟨q, hq⟩ : ∃ q, 2 * k = q := ⟨_, rfl⟩
            have HQ : Hid (2 * k = q) := hq
            have z1 : IntKind.i64.wrap (2 * (k : Int)) = (q : Int) := by rw [i64_s _ (by omega) (by have := HK.out; omega)]; omega
            have z2 : IntKind.i64.wrap ((q : Int) + 1) = (q : Int) + 1 := i64_s _ (by omega) (by have := HK.out; omega)
            have z3 : (q : Int) < 16 := by have := HK.out; omega
            have z4 : (q : Int) + 1 < 16 := by have := HK.out; omega
            have z5 : (0 : Int) ≤ (q : Int) := by omega
            have z6 : (0 : Int) ≤ (q : Int) + 1 := by omega
            have z7 : IntKind.i64.wrap ((k : Int) + 1) = (k : Int) + 1 := i64_s _ (by omega) (by have := HK.out; omega)
            have b1 : wr.cell? ⟨B, q, none⟩ = some (.int .u8 (x q : Nat)) := HBX.out.1.byte q (by omega)
            have b2 : wr.cell? ⟨B, q + 1, none⟩ = some (.int .u8 (x (q + 1) : Nat)) := HBX.out.1.byte (q + 1) (by omega)
            have c1 : decide ((k : Int) < (J : Int)) = true := decide_eq_true (by omega)
            have c2 : (k : Int) < (J : Int) := by omega
            have c3 : decide (k < J) = true := decide_eq_true (by omega)
            have c4 : k < J := by omega
            clear hq hlt
            by_cases e1 : x q = 0
            · have f1 : ((x q : Nat) : Int) = 0 := by omega
              by_cases e2 : x (q + 1) = 0
              · have f2 : ((x (q + 1) : Nat) : Int) = 0 := by omega
                have HZ : Hid (Zr x I J (k + 1)) := HL.out.2.2.step (by rw [HQ.out]; exact ⟨e1, e2⟩)
                go_wp2
                go_roundw
                case rel => exact ⟨k + 1, I, J, by simp, rfl, rfl, ⟨HL.out.1, HK.out.1, HZ.out⟩, trivial⟩
                case measure => have := HK.out; simp [intOf]; omega
              · have f2 : ¬ ((x (q + 1) : Nat) : Int) = 0 := by omega
                go_wp2
                go_roundw
                case rel => exact ⟨k + 1, 8, 8, by simp, rfl, rfl, ⟨.inr ⟨rfl, rfl⟩, HK.out.1, fun m h1 h2 h3 => by omega⟩, trivial⟩
                case measure => have := HK.out; simp [intOf]; omega
            · have f1 : ¬ ((x q : Nat) : Int) = 0 := by omega
              go_wp2
              go_roundw
              case rel => exact ⟨k + 1, 8, 8, by simp, rfl, rfl, ⟨.inr ⟨rfl, rfl⟩, HK.out.1, fun m h1 h2 h3 => by omega⟩, trivial⟩
              case measure => have := HK.out; simp [intOf]; omega
          · have HE : Hid (FOk 8 I J ∧ Zr x I J k ∧ J ≤ k) := ⟨HL.out.1, HL.out.2.2, by omega⟩
            have c5 : decide ((k : Int) < (J : Int)) = false := decide_eq_false (by omega)
            have c6 : ¬ (k : Int) < (J : Int) := by omega
            have c7 : decide (k < J) = false := decide_eq_false (by omega)
            have c8 : ¬ k < J := by omega
            clear hlt HL
            go_wp2
            have HF : Hid (FOk 8 I J ∧ Zr x I J k ∧ J ≤ k) := HE.out
            obtain ⟨k1, hk1⟩ : ∃ k1, k1 = k := ⟨_, rfl⟩
            rw [← hk1] at HF
            clear HE
            go_loopw [13, 14, 15] (fun s kv _ wr2 => ∃ k : Nat, s = .string (txB (preT (DD x ys) x I J k)) ∧ kv = .int .i64 (k : Int) ∧ Hid (k ≤ 8 ∧ AryAt wr2 B x ∧ Below w.heap.size w wr2)) (fun _ kv _ _ => 8 - (intOf kv).toNat)
            case atStart => exact ⟨0, by rw [preT_0]; rfl, rfl, Nat.zero_le _, HBX.out⟩
            case round =>
              obtain ⟨k, rfl, rfl, HO⟩ := hrel
              by_cases hlt : k < 8
              · have HK : Hid (k < 8) := hlt
                have c71 : decide ((k : Int) < (8 : Int)) = true := decide_eq_true (by omega)
                have c72 : (k : Int) < (8 : Int) := by omega
                have c73 : decide (k < 8) = true := decide_eq_true (by omega)
                have c74 : k < 8 := by omega
                clear hlt
                have z7 : IntKind.i64.wrap ((k : Int) + 1) = (k : Int) + 1 := i64_s _ (by omega) (by have := HK.out; omega)
                by_cases hA : k = I ∧ I < J
                · obtain ⟨rfl, hIJ⟩ := hA
                  have HA : Hid (k < J ∧ J ≤ 8) := ⟨hIJ, by rcases HF.out.1 with h | h <;> omega⟩
                  have HP : Hid (preT (DD x ys) x k J (k + 1) = preT (DD x ys) x k J k ++ [58, 58]) := preT_gap (DD x ys) x hIJ
                  have c9 : (((k : Nat) : Int) == ((k : Nat) : Int)) = true := beq_self_eq_true _
                  have c10 : (k == k) = true := beq_self_eq_true _
                  have c11 : decide ((k : Int) < (J : Int)) = true := decide_eq_true (by omega)
                  have c12 : (k : Int) < (J : Int) := by omega
                  have c13 : decide (k < J) = true := decide_eq_true (by omega)
                  have c14 : k < J := by omega
                  have c15 : decide ((k : Int) ≤ (k : Int)) = true := decide_eq_true (by omega)
                  have c16 : (k : Int) ≤ (k : Int) := by omega
                  have c17 : decide (k ≤ k) = true := decide_eq_true (by omega)
                  have c18 : k ≤ k := by omega
                  clear hIJ
                  go_wp2_with (refine wpList_cat (.tmp 68) (.const (.string ⟨#[58, 58]⟩)) rfl (preT (DD x ys) x k J k) [58, 58] _ _ rfl rfl rfl rfl rfl (by have := preT_len x (DD_len x ys) k J k; have := HK.out; simp only [List.length_cons, List.length_nil]; omega) ?_)
                  go_roundw
                  case rel => exact ⟨k + 1, by rw [HP.out], by simp, HK.out, HO.out.2⟩
                  case measure => have := HK.out; simp [intOf]; omega
                · by_cases hB : I < k ∧ k < J
                  · have HP : Hid (preT (DD x ys) x I J (k + 1) = preT (DD x ys) x I J k) := preT_in (DD x ys) x hB.1 hB.2
                    have c19 : (((k : Nat) : Int) == ((I : Nat) : Int)) = false := by rw [beq_eq_false_iff_ne]; omega
                    have c20 : (k == I) = false := by rw [beq_eq_false_iff_ne]; omega
                    have c21 : decide ((I : Int) ≤ (k : Int)) = true := decide_eq_true (by omega)
                    have c22 : (I : Int) ≤ (k : Int) := by omega
                    have c23 : decide (I ≤ k) = true := decide_eq_true (by omega)
                    have c24 : I ≤ k := by omega
                    have c25 : decide ((k : Int) < (J : Int)) = true := decide_eq_true (by omega)
                    have c26 : (k : Int) < (J : Int) := by omega
                    have c27 : decide (k < J) = true := decide_eq_true (by omega)
                    have c28 : k < J := by omega
                    have c29 : decide ((I : Int) < (J : Int)) = true := decide_eq_true (by omega)
                    have c30 : (I : Int) < (J : Int) := by omega
                    have c31 : decide (I < J) = true := decide_eq_true (by omega)
                    have c32 : I < J := by omega
                    clear hB
                    go_wp2
                    go_roundw
                    case rel => exact ⟨k + 1, by rw [HP.out], by simp, HK.out, HO.out.2⟩
                    case measure => have := HK.out; simp [intOf]; omega
                  · have HC : Hid (I ≤ J ∧ k ≠ I ∧ (k < I ∨ (I < J ∧ J ≤ k))) := by
                      have h := HF.out.1
                      have h2 := HK.out
                      unfold FOk at h
                      show I ≤ J ∧ k ≠ I ∧ (k < I ∨ (I < J ∧ J ≤ k))
                      omega
                    have HP : Hid (preT (DD x ys) x I J (k + 1) = preT (DD x ys) x I J k ++ (if 0 < k ∧ k ≠ J then 58 :: DD x ys k else DD x ys k)) := preT_grp (DD x ys) x HC.out.1 HC.out.2.2
                    clear hA hB
                    have c33 : (((k : Nat) : Int) == ((I : Nat) : Int)) = false := by rw [beq_eq_false_iff_ne]; exact fun h => HC.out.2.1 (by omega)
                    have c34 : (k == I) = false := by rw [beq_eq_false_iff_ne]; exact fun h => HC.out.2.1 (by omega)
                    go_upto_region 19 with fail
                    go_cut [77] (fun u wx => u = .bool false ∧ wr = wx)
                    case first =>
                      by_cases hI : I ≤ k
                      · have HJ : Hid (J ≤ k) := by have := HC.out; show J ≤ k; omega
                        have c35 : decide ((I : Int) ≤ (k : Int)) = true := decide_eq_true (by omega)
                        have c36 : (I : Int) ≤ (k : Int) := by omega
                        have c37 : decide (I ≤ k) = true := decide_eq_true (by omega)
                        have c38 : I ≤ k := by omega
                        have c39 : decide ((k : Int) < (J : Int)) = false := decide_eq_false (by have := HJ.out; omega)
                        have c40 : ¬ (k : Int) < (J : Int) := by have := HJ.out; omega
                        have c41 : decide (k < J) = false := decide_eq_false (by have := HJ.out; omega)
                        have c42 : ¬ k < J := by have := HJ.out; omega
                        clear hI
                        go_wp2
                        go_meet
                        exact ⟨rfl, rfl⟩
                      · have HJ : Hid (¬ I ≤ k) := hI
                        have c43 : decide ((I : Int) ≤ (k : Int)) = false := decide_eq_false (by omega)
                        have c44 : ¬ (I : Int) ≤ (k : Int) := by omega
                        have c45 : decide (I ≤ k) = false := decide_eq_false (by omega)
                        have c46 : ¬ I ≤ k := by omega
                        clear hI
                        go_wp2
                        go_meet
                        exact ⟨rfl, rfl⟩
                    case rest =>
                      obtain ⟨rfl, rfl⟩ := hcut
                      go_upto_region 20 with fail
                      obtain ⟨SEP, hSEP⟩ : ∃ SEP : List Nat, SEP = if 0 < k ∧ k ≠ J then [58] else [] := ⟨_, rfl⟩
                      have HSEP : Hid (SEP = (if 0 < k ∧ k ≠ J then [58] else []) ∧ SEP.length ≤ 1) := ⟨hSEP, by rw [hSEP]; split <;> simp⟩
                      clear hSEP
                      go_cut [84] (fun u wx => u = .bool (decide (0 < k ∧ k ≠ J)) ∧ wr = wx)
                      case first =>
                        by_cases h0 : 0 < k
                        · by_cases h1 : k = J
                          · subst h1
                            have HD : Hid (decide (0 < k ∧ k ≠ k) = false) := decide_eq_false (by omega)
                            have c47 : decide ((0 : Int) < (k : Int)) = true := decide_eq_true (by omega)
                            have c48 : (0 : Int) < (k : Int) := by omega
                            have c49 : decide (0 < k) = true := decide_eq_true (by omega)
                            have c50 : 0 < k := by omega
                            have c51 : (((k : Nat) : Int) == ((k : Nat) : Int)) = true := beq_self_eq_true _
                            have c52 : (k == k) = true := beq_self_eq_true _
                            clear h0
                            go_wp2
                            go_meet
                            exact ⟨by rw [HD.out], rfl⟩
                          · have HD : Hid (decide (0 < k ∧ k ≠ J) = true) := decide_eq_true ⟨h0, h1⟩
                            have g1 : ((k : Int) != (J : Int)) = true := by simp; omega
                            have g2 : ¬ (k : Int) = (J : Int) := by omega
                            have c53 : decide ((0 : Int) < (k : Int)) = true := decide_eq_true (by omega)
                            have c54 : (0 : Int) < (k : Int) := by omega
                            have c55 : decide (0 < k) = true := decide_eq_true (by omega)
                            have c56 : 0 < k := by omega
                            have c57 : (((k : Nat) : Int) == ((J : Nat) : Int)) = false := by rw [beq_eq_false_iff_ne]; omega
                            have c58 : (k == J) = false := by rw [beq_eq_false_iff_ne]; omega
                            clear h0
                            go_wp2
                            go_meet
                            exact ⟨by rw [HD.out], rfl⟩
                        · have HD : Hid (decide (0 < k ∧ k ≠ J) = false) := decide_eq_false (by omega)
                          have c59 : decide ((0 : Int) < (k : Int)) = false := decide_eq_false (by omega)
                          have c60 : ¬ (0 : Int) < (k : Int) := by omega
                          have c61 : decide (0 < k) = false := decide_eq_false (by omega)
                          have c62 : ¬ 0 < k := by omega
                          clear h0
                          go_wp2
                          go_meet
                          exact ⟨by rw [HD.out], rfl⟩
                      case rest =>
                        obtain ⟨rfl, rfl⟩ := hcut
                        go_upto_if 84 with fail
                        go_cut [13] (fun u wx => u = .string (txB (preT (DD x ys) x I J k ++ SEP)) ∧ wr = wx)
                        case first =>
                          by_cases h0 : 0 < k ∧ k ≠ J
                          · have HS : Hid (SEP = [58]) := by have := HSEP.out.1; rw [if_pos h0] at this; exact this
                            rw [decide_eq_true h0]
                            clear h0
                            go_wp2_with (refine wpList_cat (.tmp 85) (.const (.string ⟨#[58]⟩)) rfl (preT (DD x ys) x I J k) [58] _ _ rfl rfl rfl rfl rfl (by have := preT_len x (DD_len x ys) I J k; have := HK.out; simp only [List.length_cons, List.length_nil]; omega) ?_)
                            go_meet
                            exact ⟨by rw [HS.out], rfl⟩
                          · have HS : Hid (SEP = []) := by have := HSEP.out.1; rw [if_neg h0] at this; exact this
                            rw [decide_eq_false h0]
                            clear h0
                            go_wp2
                            go_meet
                            exact ⟨by rw [HS.out, List.append_nil], rfl⟩
                        case rest =>
                          obtain ⟨rfl, rfl⟩ := hcut
                          go_upto_if 90 with fail
                          go_cut [15] (fun u wx => u = .int .i64 (ys.getD k 0) ∧ wr = wx)
                          case first =>
                            by_cases hw : k < wn
                            · have HS : Hid (Seg .i64 wr wa ys ∧ k < ys.length) := ⟨HY.out.2.old HO.out.2.2, by have := HY.out.1; omega⟩
                              have c63 : decide ((k : Int) < (wn : Int)) = true := decide_eq_true (by omega)
                              have c64 : (k : Int) < (wn : Int) := by omega
                              have c65 : decide (k < wn) = true := decide_eq_true (by omega)
                              have c66 : k < wn := by omega
                              clear hw
                              rcases HS.out.1 with h | ⟨b, off, rfl, hc⟩
                              · have := HS.out.2
                                rw [h] at this
                                cases this
                              · have y1 : wr.cell? ⟨b, off + k, none⟩ = some (.int .i64 (ys.getD k 0)) := hc k HS.out.2
                                clear hc
                                go_wp2
                                go_meet
                                exact ⟨rfl, rfl⟩
                            · have HS : Hid (ys.getD k 0 = 0) := by
                                show ys.getD k 0 = 0
                                rw [List.getD_eq_getElem?_getD, List.getElem?_eq_none (by have := HY.out.1; omega)]
                                rfl
                              have c67 : decide ((k : Int) < (wn : Int)) = false := decide_eq_false (by omega)
                              have c68 : ¬ (k : Int) < (wn : Int) := by omega
                              have c69 : decide (k < wn) = false := decide_eq_false (by omega)
                              have c70 : ¬ k < wn := by omega
                              clear hw
                              go_wp2
                              go_meet
                              exact ⟨by rw [HS.out], rfl⟩
                          case rest =>
                            obtain ⟨rfl, rfl⟩ := hcut
                            obtain ⟨q, hq⟩ : ∃ q, 2 * k = q := ⟨_, rfl⟩
                            have HQ : Hid (2 * k = q) := hq
                            have z1 : IntKind.i64.wrap (2 * (k : Int)) = (q : Int) := by rw [i64_s _ (by omega) (by have := HK.out; omega)]; omega
                            have z2 : IntKind.i64.wrap ((q : Int) + 1) = (q : Int) + 1 := i64_s _ (by omega) (by have := HK.out; omega)
                            have z3 : (q : Int) < 16 := by have := HK.out; omega
                            have z4 : (q : Int) + 1 < 16 := by have := HK.out; omega
                            have z5 : (0 : Int) ≤ (q : Int) := by omega
                            have z6 : (0 : Int) ≤ (q : Int) + 1 := by omega
                            have HQL : Hid (q + 1 < 16) := by have := HK.out; show q + 1 < 16; omega
                            clear hq
                            go_upto_region 25 with fail
                            refine MixH.start (fun A => AryAt A B x ∧ Below w.heap.size w A) (by kernel_rfl) ?_
                            obtain ⟨wA, hwA⟩ : ∃ W_, W_ = wr.drew := ⟨_, rfl⟩
                            have bdr : Below wr.heap.size wr wA := by rw [hwA]; exact (Below.refl _ _).drew
                            have hS : AryAt wA B x ∧ Below w.heap.size w wA := ⟨HO.out.2.1.below bdr, HO.out.2.2.trans (bdr.mono HO.out.2.2.size)⟩
                            rw [← hwA]
                            clear hwA bdr
                            refine MixH.takes [true, true, true, true, false, true, true, true, true, false, true] 5 (by kernel_rfl) (by kernel_rfl) (by decide) (by kernel_rfl) hS (fun K hK => ?_)
                            simp only [Mix.pick]
                            repeat (go_big_quiet_step (fail))
                            refine wpQuiet_nil (hK _ ?_)
                            clear hK K
                            refine MixH.take 4 4 _ (.int .u8 (x q : Nat)) rfl (by kernel_rfl) (by kernel_rfl) (by kernel_rfl) (by kernel_rfl) (yields_by4 (.tmp 98) rfl ⟨B, q, none⟩ (.int .u8 (x q : Nat)) rfl rfl (fun A hA => hA.1.byte q (by omega))) hS (fun a' ha => ?_)
                            simp only [Act.put, List.setIfInBounds_toArray, List.set_cons_succ, List.set_cons_zero] at ha
                            subst ha
                            refine MixH.take 3 9 _ (.int .u8 (x (q + 1) : Nat)) rfl (by kernel_rfl) (by kernel_rfl) (by kernel_rfl) (by kernel_rfl) (yields_by4 (.tmp 103) rfl ⟨B, q + 1, none⟩ (.int .u8 (x (q + 1) : Nat)) rfl rfl (fun A hA => hA.1.byte (q + 1) (by omega))) hS (fun a' ha => ?_)
                            simp only [Act.put, List.setIfInBounds_toArray, List.set_cons_succ, List.set_cons_zero] at ha
                            subst ha
                            refine MixH.one [false, false, false, false, false, false, false, false, false, false, false, true] 2 11 _ rfl rfl (by kernel_rfl) (by kernel_rfl) (fun K hK => ?_)
                            simp only [Mix.pick]
                            go_wp2_with fail
                            refine Calls.mono (written_any (x q) (x (q + 1)) (ys.getD k 0) wA (HX.out q (by have := HQL.out; omega)) (HX.out (q + 1) HQL.out)) ?_
                            rintro e w5 ⟨rfl, hb⟩
                            have hS : AryAt w5 B x ∧ Below w.heap.size w w5 := ⟨hS.1.below hb, hS.2.trans (hb.mono hS.2.size)⟩
                            clear hb
                            go_wp2_with fail
                            refine ⟨rfl, hK _ _ hS ?_⟩
                            clear hK K
                            refine MixH.take 1 12 _ (.string (txB ((preT (DD x ys) x I J k ++ SEP) ++ wrD (cpW (ys.getD k 0)) (stW (ys.getD k 0)) (x q) (x (q + 1))))) rfl (by kernel_rfl) (by kernel_rfl) (by kernel_rfl) (by kernel_rfl) (yields_cat (.tmp 95) (.tmp 106) rfl (preT (DD x ys) x I J k ++ SEP) (wrD (cpW (ys.getD k 0)) (stW (ys.getD k 0)) (x q) (x (q + 1))) _ rfl rfl rfl rfl (by have := preT_len x (DD_len x ys) I J k; have := HK.out; have := HSEP.out.2; have := wrD_len (cpW (ys.getD k 0)) (stW (ys.getD k 0)) (x q) (x (q + 1)); rw [List.length_append]; omega)) hS (fun a' ha => ?_)
                            simp only [Act.put, List.setIfInBounds_toArray, List.set_cons_succ, List.set_cons_zero] at ha
                            subst ha
                            refine MixH.takes [false, false, false, false, false, false, false, false, false, false, false, false, false, true] 0 (by kernel_rfl) (by kernel_rfl) (by decide) (by kernel_rfl) hS (fun K hK => ?_)
                            simp only [Mix.pick]
                            repeat (go_big_quiet_step (fail))
                            refine wpQuiet_nil (hK _ ?_)
                            clear hK K
                            refine MixH.done (by kernel_rfl) ?_
                            have HS2 : Hid (AryAt w5 B x ∧ Below w.heap.size w w5) := hS
                            clear hS
                            go_wp2
                            go_roundw
                            case rel => exact ⟨k + 1, by rw [HP.out, HSEP.out.1, DD_at x ys (show k < 8 by have := HK.out; omega)]; unfold dW; rw [HQ.out]; by_cases h : 0 < k ∧ k ≠ J <;> simp [h], by simp, HK.out, HS2.out⟩
                            case measure => have := HK.out; simp [intOf]; omega
              · have HE : Hid (k = 8) := by have := HO.out.1; show k = 8; omega
                obtain rfl := HE.out
                have HTX : Hid (preT (DD x ys) x I J 8 = txt (DD x ys) x I J false) := preT_flat (DD x ys) x HF.out.1
                have HW2 : Hid (AryAt wr B x ∧ Below w.heap.size w wr) := HO.out.2
                clear HO hlt HE hk1
                rw [HTX.out]
                obtain ⟨y, hy1, hy2⟩ := forms_read HX.out ys (tail := false) HF.out.1 HF.out.2.1 HF.out.2.2
                have HPI : Hid (pIP (txB (txt (DD x ys) x I J false)) = .inl (6, y) ∧ ((6 : Int) == 6 && same16 y x) = true) := ⟨hy1, by rw [hy2]; rfl⟩
                clear hy1 hy2
                go_wp2_with fail
                refine (parseIP_any (txB (txt (DD x ys) x I J false)) wr).mono ?_
                rintro e w2 ⟨rfl, hb⟩
                have H2 : Hid (AryAt w2 B x ∧ Below w.heap.size w w2) := ⟨HW2.out.1.below hb, HW2.out.2.trans (hb.mono HW2.out.2.size)⟩
                clear hb
                rw [HPI.out.1]
                show _
                simp only [ipO]
                obtain ⟨O1, hO⟩ : ∃ O_, O_ = w2.heap.size := ⟨_, rfl⟩
                have HO1 : Hid (w2.heap.size = O1) := hO.symm
                clear hO
                go_wp2_with (refine wpList_store_ipr (.tmp 16) (.tmp 126) rfl rfl w2.heap.size 0 (fun _ => 0) 6 y rfl rfl (ipr_new w2 0 (fun _ => 0)) rfl ?_)
                intro w3 hRE kE
                rw [HO1.out] at hRE kE ⊢
                have bN : Below w2.heap.size w2 w3 := ((Below.refl _ _).alloc (Nat.le_refl _) _).trans (kE.below (fun q h => by have h' : q = O1 := h; have := HO1.out; omega) (by rw [World.size_alloc]; omega))
                have H3 : Hid (IprAt w3 O1 6 y ∧ AryAt w3 B x ∧ Below w.heap.size w w3) := ⟨hRE, H2.out.1.below bN, H2.out.2.trans (bN.mono H2.out.2.size)⟩
                clear hRE kE bN
                go_wp2_with fail
                refine (started_any w3 (HTT.out.p.below H3.out.2.2) (HTT.out.s.old H3.out.2.2)).mono ?_
                rintro e w4 ⟨rfl, hb⟩
                have H4 : Hid (IprAt w4 O1 6 y ∧ AryAt w4 B x ∧ Below w.heap.size w w4) := ⟨H3.out.1.below hb, H3.out.2.1.below hb, H3.out.2.2.trans (hb.mono H3.out.2.2.size)⟩
                clear hb
                go_wp2_with fail
                refine (num4_any _ w4).mono ?_
                rintro e wz ⟨rfl, rfl⟩
                go_wp2_with (first | (refine wpList_load_ipr (.tmp 16) rfl O1 6 y rfl H4.out.1 rfl ?_) | (refine wpList_load_ar (.tmp 5) rfl B 0 x rfl (Ary_all H4.out.2.1) rfl ?_) | (refine wpList_bip6 (.const (.int .i64 6)) (.tmp 141) rfl 6 x rfl rfl rfl ?_) | (refine wpList_eql_ipb (.tmp 140) (.tmp 142) rfl 6 6 y x rfl rfl true HPI.out.2 rfl ?_))
                go_ret
                exact ⟨rfl, H4.out.2.2⟩
  | true =>
    go_upto_region 4 with fail
    go_cut [31] (fun u wx => u = .bool (decide (i < 0 ∨ (6 : Int) < j ∨ j ≤ i)) ∧ W = wx)
    case first =>
      by_cases h1 : i < 0
      · have HD : Hid (decide (i < 0 ∨ (6 : Int) < j ∨ j ≤ i) = true) := decide_eq_true (.inl h1)
        have d1 : decide (i < 0) = true := decide_eq_true h1
        go_wp2
        go_meet
        exact ⟨by rw [HD.out], rfl⟩
      · have d1 : decide (i < 0) = false := decide_eq_false h1
        by_cases h2 : (6 : Int) < j
        · have HD : Hid (decide (i < 0 ∨ (6 : Int) < j ∨ j ≤ i) = true) := decide_eq_true (.inr (.inl h2))
          have d2 : decide (j > (6 : Int)) = true := decide_eq_true h2
          go_wp2
          go_meet
          exact ⟨by rw [HD.out], rfl⟩
        · have d2 : decide (j > (6 : Int)) = false := decide_eq_false h2
          by_cases h3 : j ≤ i
          · have HD : Hid (decide (i < 0 ∨ (6 : Int) < j ∨ j ≤ i) = true) := decide_eq_true (.inr (.inr h3))
            have d3 : decide (i ≥ j) = true := decide_eq_true h3
            go_wp2
            go_meet
            exact ⟨by rw [HD.out], rfl⟩
          · have HD : Hid (decide (i < 0 ∨ (6 : Int) < j ∨ j ≤ i) = false) := decide_eq_false (by omega)
            have d3 : decide (i ≥ j) = false := decide_eq_false h3
            go_wp2
            go_meet
            exact ⟨by rw [HD.out], rfl⟩
    case rest =>
      obtain ⟨rfl, rfl⟩ := hcut
      go_upto_if 31 with fail
      go_cut [2, 3] (fun u v wx => ∃ I J : Nat, u = .int .i64 (I : Int) ∧ v = .int .i64 (J : Int) ∧ Hid (FOk 6 I J) ∧ W = wx)
      case first =>
        by_cases h0 : i < 0 ∨ (6 : Int) < j ∨ j ≤ i
        · rw [decide_eq_true h0]
          clear h0
          go_wp2
          go_meet
          exact ⟨6, 6, rfl, rfl, .inr ⟨rfl, rfl⟩, rfl⟩
        · rw [decide_eq_false h0]
          have HI : Hid (i = (i.toNat : Int) ∧ j = (j.toNat : Int) ∧ FOk 6 i.toNat j.toNat) := ⟨by omega, by omega, .inl (by omega)⟩
          clear h0
          go_wp2
          go_meet
          exact ⟨i.toNat, j.toNat, by rw [← HI.out.1], by rw [← HI.out.2.1], HI.out.2.2, rfl⟩
      case rest =>
        obtain ⟨I0, J0, rfl, rfl, HF0, rfl⟩ := hcut
        go_wp2
        go_loopw [12, 2, 3] (fun u v z wr => ∃ (k I J : Nat), u = .int .i64 (k : Int) ∧ v = .int .i64 (I : Int) ∧ z = .int .i64 (J : Int) ∧ Hid (FOk 6 I J ∧ k ≤ 6 ∧ Zr x I J k) ∧ wr = W) (fun u _ _ _ => 6 - (intOf u).toNat)
        case atStart => exact ⟨I0, I0, J0, rfl, rfl, rfl, ⟨HF0.out, by rcases HF0.out with h | h <;> omega, fun m h1 h2 => by omega⟩, rfl⟩
        case round =>
          obtain ⟨k, I, J, rfl, rfl, rfl, HL, rfl⟩ := hrel
          by_cases hlt : k < J
          · have HK : Hid (k < 6 ∧ k < J) := ⟨by rcases HL.out.1 with h | h <;> omega, hlt⟩
            obtain ⟨q, hq⟩ : ∃ q, 2 * k = q := ⟨_, rfl⟩
            have HQ : Hid (2 * k = q) := hq
            have z1 : IntKind.i64.wrap (2 * (k : Int)) = (q : Int) := by rw [i64_s _ (by omega) (by have := HK.out; omega)]; omega
            have z2 : IntKind.i64.wrap ((q : Int) + 1) = (q : Int) + 1 := i64_s _ (by omega) (by have := HK.out; omega)
            have z3 : (q : Int) < 16 := by have := HK.out; omega
            have z4 : (q : Int) + 1 < 16 := by have := HK.out; omega
            have z5 : (0 : Int) ≤ (q : Int) := by omega
            have z6 : (0 : Int) ≤ (q : Int) + 1 := by omega
            have z7 : IntKind.i64.wrap ((k : Int) + 1) = (k : Int) + 1 := i64_s _ (by omega) (by have := HK.out; omega)
            have b1 : wr.cell? ⟨B, q, none⟩ = some (.int .u8 (x q : Nat)) := HBX.out.1.byte q (by omega)
            have b2 : wr.cell? ⟨B, q + 1, none⟩ = some (.int .u8 (x (q + 1) : Nat)) := HBX.out.1.byte (q + 1) (by omega)
            have c75 : decide ((k : Int) < (J : Int)) = true := decide_eq_true (by omega)
            have c76 : (k : Int) < (J : Int) := by omega
            have c77 : decide (k < J) = true := decide_eq_true (by omega)
            have c78 : k < J := by omega
            clear hq hlt
            by_cases e1 : x q = 0
            · have f1 : ((x q : Nat) : Int) = 0 := by omega
              by_cases e2 : x (q + 1) = 0
              · have f2 : ((x (q + 1) : Nat) : Int) = 0 := by omega
                have HZ : Hid (Zr x I J (k + 1)) := HL.out.2.2.step (by rw [HQ.out]; exact ⟨e1, e2⟩)
                go_wp2
                go_roundw
                case rel => exact ⟨k + 1, I, J, by simp, rfl, rfl, ⟨HL.out.1, HK.out.1, HZ.out⟩, trivial⟩
                case measure => have := HK.out; simp [intOf]; omega
              · have f2 : ¬ ((x (q + 1) : Nat) : Int) = 0 := by omega
                go_wp2
                go_roundw
                case rel => exact ⟨k + 1, 6, 6, by simp, rfl, rfl, ⟨.inr ⟨rfl, rfl⟩, HK.out.1, fun m h1 h2 h3 => by omega⟩, trivial⟩
                case measure => have := HK.out; simp [intOf]; omega
            · have f1 : ¬ ((x q : Nat) : Int) = 0 := by omega
              go_wp2
              go_roundw
              case rel => exact ⟨k + 1, 6, 6, by simp, rfl, rfl, ⟨.inr ⟨rfl, rfl⟩, HK.out.1, fun m h1 h2 h3 => by omega⟩, trivial⟩
              case measure => have := HK.out; simp [intOf]; omega
          · have HE : Hid (FOk 6 I J ∧ Zr x I J k ∧ J ≤ k) := ⟨HL.out.1, HL.out.2.2, by omega⟩
            have c79 : decide ((k : Int) < (J : Int)) = false := decide_eq_false (by omega)
            have c80 : ¬ (k : Int) < (J : Int) := by omega
            have c81 : decide (k < J) = false := decide_eq_false (by omega)
            have c82 : ¬ k < J := by omega
            clear hlt HL
            go_wp2
            have HF : Hid (FOk 6 I J ∧ Zr x I J k ∧ J ≤ k) := HE.out
            obtain ⟨k1, hk1⟩ : ∃ k1, k1 = k := ⟨_, rfl⟩
            rw [← hk1] at HF
            clear HE
            go_loopw [13, 14, 15] (fun s kv _ wr2 => ∃ k : Nat, s = .string (txB (preT (DD x ys) x I J k)) ∧ kv = .int .i64 (k : Int) ∧ Hid (k ≤ 6 ∧ AryAt wr2 B x ∧ Below w.heap.size w wr2)) (fun _ kv _ _ => 6 - (intOf kv).toNat)
            case atStart => exact ⟨0, by rw [preT_0]; rfl, rfl, Nat.zero_le _, HBX.out⟩
            case round =>
              obtain ⟨k, rfl, rfl, HO⟩ := hrel
              by_cases hlt : k < 6
              · have HK : Hid (k < 6) := hlt
                have c145 : decide ((k : Int) < (6 : Int)) = true := decide_eq_true (by omega)
                have c146 : (k : Int) < (6 : Int) := by omega
                have c147 : decide (k < 6) = true := decide_eq_true (by omega)
                have c148 : k < 6 := by omega
                clear hlt
                have z7 : IntKind.i64.wrap ((k : Int) + 1) = (k : Int) + 1 := i64_s _ (by omega) (by have := HK.out; omega)
                by_cases hA : k = I ∧ I < J
                · obtain ⟨rfl, hIJ⟩ := hA
                  have HA : Hid (k < J ∧ J ≤ 6) := ⟨hIJ, by rcases HF.out.1 with h | h <;> omega⟩
                  have HP : Hid (preT (DD x ys) x k J (k + 1) = preT (DD x ys) x k J k ++ [58, 58]) := preT_gap (DD x ys) x hIJ
                  have c83 : (((k : Nat) : Int) == ((k : Nat) : Int)) = true := beq_self_eq_true _
                  have c84 : (k == k) = true := beq_self_eq_true _
                  have c85 : decide ((k : Int) < (J : Int)) = true := decide_eq_true (by omega)
                  have c86 : (k : Int) < (J : Int) := by omega
                  have c87 : decide (k < J) = true := decide_eq_true (by omega)
                  have c88 : k < J := by omega
                  have c89 : decide ((k : Int) ≤ (k : Int)) = true := decide_eq_true (by omega)
                  have c90 : (k : Int) ≤ (k : Int) := by omega
                  have c91 : decide (k ≤ k) = true := decide_eq_true (by omega)
                  have c92 : k ≤ k := by omega
                  clear hIJ
                  go_wp2_with (refine wpList_cat (.tmp 68) (.const (.string ⟨#[58, 58]⟩)) rfl (preT (DD x ys) x k J k) [58, 58] _ _ rfl rfl rfl rfl rfl (by have := preT_len x (DD_len x ys) k J k; have := HK.out; simp only [List.length_cons, List.length_nil]; omega) ?_)
                  go_roundw
                  case rel => exact ⟨k + 1, by rw [HP.out], by simp, HK.out, HO.out.2⟩
                  case measure => have := HK.out; simp [intOf]; omega
                · by_cases hB : I < k ∧ k < J
                  · have HP : Hid (preT (DD x ys) x I J (k + 1) = preT (DD x ys) x I J k) := preT_in (DD x ys) x hB.1 hB.2
                    have c93 : (((k : Nat) : Int) == ((I : Nat) : Int)) = false := by rw [beq_eq_false_iff_ne]; omega
                    have c94 : (k == I) = false := by rw [beq_eq_false_iff_ne]; omega
                    have c95 : decide ((I : Int) ≤ (k : Int)) = true := decide_eq_true (by omega)
                    have c96 : (I : Int) ≤ (k : Int) := by omega
                    have c97 : decide (I ≤ k) = true := decide_eq_true (by omega)
                    have c98 : I ≤ k := by omega
                    have c99 : decide ((k : Int) < (J : Int)) = true := decide_eq_true (by omega)
                    have c100 : (k : Int) < (J : Int) := by omega
                    have c101 : decide (k < J) = true := decide_eq_true (by omega)
                    have c102 : k < J := by omega
                    have c103 : decide ((I : Int) < (J : Int)) = true := decide_eq_true (by omega)
                    have c104 : (I : Int) < (J : Int) := by omega
                    have c105 : decide (I < J) = true := decide_eq_true (by omega)
                    have c106 : I < J := by omega
                    clear hB
                    go_wp2
                    go_roundw
                    case rel => exact ⟨k + 1, by rw [HP.out], by simp, HK.out, HO.out.2⟩
                    case measure => have := HK.out; simp [intOf]; omega
                  · have HC : Hid (I ≤ J ∧ k ≠ I ∧ (k < I ∨ (I < J ∧ J ≤ k))) := by
                      have h := HF.out.1
                      have h2 := HK.out
                      unfold FOk at h
                      show I ≤ J ∧ k ≠ I ∧ (k < I ∨ (I < J ∧ J ≤ k))
                      omega
                    have HP : Hid (preT (DD x ys) x I J (k + 1) = preT (DD x ys) x I J k ++ (if 0 < k ∧ k ≠ J then 58 :: DD x ys k else DD x ys k)) := preT_grp (DD x ys) x HC.out.1 HC.out.2.2
                    clear hA hB
                    have c107 : (((k : Nat) : Int) == ((I : Nat) : Int)) = false := by rw [beq_eq_false_iff_ne]; exact fun h => HC.out.2.1 (by omega)
                    have c108 : (k == I) = false := by rw [beq_eq_false_iff_ne]; exact fun h => HC.out.2.1 (by omega)
                    go_upto_region 19 with fail
                    go_cut [77] (fun u wx => u = .bool false ∧ wr = wx)
                    case first =>
                      by_cases hI : I ≤ k
                      · have HJ : Hid (J ≤ k) := by have := HC.out; show J ≤ k; omega
                        have c109 : decide ((I : Int) ≤ (k : Int)) = true := decide_eq_true (by omega)
                        have c110 : (I : Int) ≤ (k : Int) := by omega
                        have c111 : decide (I ≤ k) = true := decide_eq_true (by omega)
                        have c112 : I ≤ k := by omega
                        have c113 : decide ((k : Int) < (J : Int)) = false := decide_eq_false (by have := HJ.out; omega)
                        have c114 : ¬ (k : Int) < (J : Int) := by have := HJ.out; omega
                        have c115 : decide (k < J) = false := decide_eq_false (by have := HJ.out; omega)
                        have c116 : ¬ k < J := by have := HJ.out; omega
                        clear hI
                        go_wp2
                        go_meet
                        exact ⟨rfl, rfl⟩
                      · have HJ : Hid (¬ I ≤ k) := hI
                        have c117 : decide ((I : Int) ≤ (k : Int)) = false := decide_eq_false (by omega)
                        have c118 : ¬ (I : Int) ≤ (k : Int) := by omega
                        have c119 : decide (I ≤ k) = false := decide_eq_false (by omega)
                        have c120 : ¬ I ≤ k := by omega
                        clear hI
                        go_wp2
                        go_meet
                        exact ⟨rfl, rfl⟩
                    case rest =>
                      obtain ⟨rfl, rfl⟩ := hcut
                      go_upto_region 20 with fail
                      obtain ⟨SEP, hSEP⟩ : ∃ SEP : List Nat, SEP = if 0 < k ∧ k ≠ J then [58] else [] := ⟨_, rfl⟩
                      have HSEP : Hid (SEP = (if 0 < k ∧ k ≠ J then [58] else []) ∧ SEP.length ≤ 1) := ⟨hSEP, by rw [hSEP]; split <;> simp⟩
                      clear hSEP
                      go_cut [84] (fun u wx => u = .bool (decide (0 < k ∧ k ≠ J)) ∧ wr = wx)
                      case first =>
                        by_cases h0 : 0 < k
                        · by_cases h1 : k = J
                          · subst h1
                            have HD : Hid (decide (0 < k ∧ k ≠ k) = false) := decide_eq_false (by omega)
                            have c121 : decide ((0 : Int) < (k : Int)) = true := decide_eq_true (by omega)
                            have c122 : (0 : Int) < (k : Int) := by omega
                            have c123 : decide (0 < k) = true := decide_eq_true (by omega)
                            have c124 : 0 < k := by omega
                            have c125 : (((k : Nat) : Int) == ((k : Nat) : Int)) = true := beq_self_eq_true _
                            have c126 : (k == k) = true := beq_self_eq_true _
                            clear h0
                            go_wp2
                            go_meet
                            exact ⟨by rw [HD.out], rfl⟩
                          · have HD : Hid (decide (0 < k ∧ k ≠ J) = true) := decide_eq_true ⟨h0, h1⟩
                            have g1 : ((k : Int) != (J : Int)) = true := by simp; omega
                            have g2 : ¬ (k : Int) = (J : Int) := by omega
                            have c127 : decide ((0 : Int) < (k : Int)) = true := decide_eq_true (by omega)
                            have c128 : (0 : Int) < (k : Int) := by omega
                            have c129 : decide (0 < k) = true := decide_eq_true (by omega)
                            have c130 : 0 < k := by omega
                            have c131 : (((k : Nat) : Int) == ((J : Nat) : Int)) = false := by rw [beq_eq_false_iff_ne]; omega
                            have c132 : (k == J) = false := by rw [beq_eq_false_iff_ne]; omega
                            clear h0
                            go_wp2
                            go_meet
                            exact ⟨by rw [HD.out], rfl⟩
                        · have HD : Hid (decide (0 < k ∧ k ≠ J) = false) := decide_eq_false (by omega)
                          have c133 : decide ((0 : Int) < (k : Int)) = false := decide_eq_false (by omega)
                          have c134 : ¬ (0 : Int) < (k : Int) := by omega
                          have c135 : decide (0 < k) = false := decide_eq_false (by omega)
                          have c136 : ¬ 0 < k := by omega
                          clear h0
                          go_wp2
                          go_meet
                          exact ⟨by rw [HD.out], rfl⟩
                      case rest =>
                        obtain ⟨rfl, rfl⟩ := hcut
                        go_upto_if 84 with fail
                        go_cut [13] (fun u wx => u = .string (txB (preT (DD x ys) x I J k ++ SEP)) ∧ wr = wx)
                        case first =>
                          by_cases h0 : 0 < k ∧ k ≠ J
                          · have HS : Hid (SEP = [58]) := by have := HSEP.out.1; rw [if_pos h0] at this; exact this
                            rw [decide_eq_true h0]
                            clear h0
                            go_wp2_with (refine wpList_cat (.tmp 85) (.const (.string ⟨#[58]⟩)) rfl (preT (DD x ys) x I J k) [58] _ _ rfl rfl rfl rfl rfl (by have := preT_len x (DD_len x ys) I J k; have := HK.out; simp only [List.length_cons, List.length_nil]; omega) ?_)
                            go_meet
                            exact ⟨by rw [HS.out], rfl⟩
                          · have HS : Hid (SEP = []) := by have := HSEP.out.1; rw [if_neg h0] at this; exact this
                            rw [decide_eq_false h0]
                            clear h0
                            go_wp2
                            go_meet
                            exact ⟨by rw [HS.out, List.append_nil], rfl⟩
                        case rest =>
                          obtain ⟨rfl, rfl⟩ := hcut
                          go_upto_if 90 with fail
                          go_cut [15] (fun u wx => u = .int .i64 (ys.getD k 0) ∧ wr = wx)
                          case first =>
                            by_cases hw : k < wn
                            · have HS : Hid (Seg .i64 wr wa ys ∧ k < ys.length) := ⟨HY.out.2.old HO.out.2.2, by have := HY.out.1; omega⟩
                              have c137 : decide ((k : Int) < (wn : Int)) = true := decide_eq_true (by omega)
                              have c138 : (k : Int) < (wn : Int) := by omega
                              have c139 : decide (k < wn) = true := decide_eq_true (by omega)
                              have c140 : k < wn := by omega
                              clear hw
                              rcases HS.out.1 with h | ⟨b, off, rfl, hc⟩
                              · have := HS.out.2
                                rw [h] at this
                                cases this
                              · have y1 : wr.cell? ⟨b, off + k, none⟩ = some (.int .i64 (ys.getD k 0)) := hc k HS.out.2
                                clear hc
                                go_wp2
                                go_meet
                                exact ⟨rfl, rfl⟩
                            · have HS : Hid (ys.getD k 0 = 0) := by
                                show ys.getD k 0 = 0
                                rw [List.getD_eq_getElem?_getD, List.getElem?_eq_none (by have := HY.out.1; omega)]
                                rfl
                              have c141 : decide ((k : Int) < (wn : Int)) = false := decide_eq_false (by omega)
                              have c142 : ¬ (k : Int) < (wn : Int) := by omega
                              have c143 : decide (k < wn) = false := decide_eq_false (by omega)
                              have c144 : ¬ k < wn := by omega
                              clear hw
                              go_wp2
                              go_meet
                              exact ⟨by rw [HS.out], rfl⟩
                          case rest =>
                            obtain ⟨rfl, rfl⟩ := hcut
                            obtain ⟨q, hq⟩ : ∃ q, 2 * k = q := ⟨_, rfl⟩
                            have HQ : Hid (2 * k = q) := hq
                            have z1 : IntKind.i64.wrap (2 * (k : Int)) = (q : Int) := by rw [i64_s _ (by omega) (by have := HK.out; omega)]; omega
                            have z2 : IntKind.i64.wrap ((q : Int) + 1) = (q : Int) + 1 := i64_s _ (by omega) (by have := HK.out; omega)
                            have z3 : (q : Int) < 16 := by have := HK.out; omega
                            have z4 : (q : Int) + 1 < 16 := by have := HK.out; omega
                            have z5 : (0 : Int) ≤ (q : Int) := by omega
                            have z6 : (0 : Int) ≤ (q : Int) + 1 := by omega
                            have HQL : Hid (q + 1 < 16) := by have := HK.out; show q + 1 < 16; omega
                            clear hq
                            go_upto_region 25 with fail
                            refine MixH.start (fun A => AryAt A B x ∧ Below w.heap.size w A) (by kernel_rfl) ?_
                            obtain ⟨wA, hwA⟩ : ∃ W_, W_ = wr.drew := ⟨_, rfl⟩
                            have bdr : Below wr.heap.size wr wA := by rw [hwA]; exact (Below.refl _ _).drew
                            have hS : AryAt wA B x ∧ Below w.heap.size w wA := ⟨HO.out.2.1.below bdr, HO.out.2.2.trans (bdr.mono HO.out.2.2.size)⟩
                            rw [← hwA]
                            clear hwA bdr
                            refine MixH.takes [true, true, true, true, false, true, true, true, true, false, true] 5 (by kernel_rfl) (by kernel_rfl) (by decide) (by kernel_rfl) hS (fun K hK => ?_)
                            simp only [Mix.pick]
                            repeat (go_big_quiet_step (fail))
                            refine wpQuiet_nil (hK _ ?_)
                            clear hK K
                            refine MixH.take 4 4 _ (.int .u8 (x q : Nat)) rfl (by kernel_rfl) (by kernel_rfl) (by kernel_rfl) (by kernel_rfl) (yields_by4 (.tmp 98) rfl ⟨B, q, none⟩ (.int .u8 (x q : Nat)) rfl rfl (fun A hA => hA.1.byte q (by omega))) hS (fun a' ha => ?_)
                            simp only [Act.put, List.setIfInBounds_toArray, List.set_cons_succ, List.set_cons_zero] at ha
                            subst ha
                            refine MixH.take 3 9 _ (.int .u8 (x (q + 1) : Nat)) rfl (by kernel_rfl) (by kernel_rfl) (by kernel_rfl) (by kernel_rfl) (yields_by4 (.tmp 103) rfl ⟨B, q + 1, none⟩ (.int .u8 (x (q + 1) : Nat)) rfl rfl (fun A hA => hA.1.byte (q + 1) (by omega))) hS (fun a' ha => ?_)
                            simp only [Act.put, List.setIfInBounds_toArray, List.set_cons_succ, List.set_cons_zero] at ha
                            subst ha
                            refine MixH.one [false, false, false, false, false, false, false, false, false, false, false, true] 2 11 _ rfl rfl (by kernel_rfl) (by kernel_rfl) (fun K hK => ?_)
                            simp only [Mix.pick]
                            go_wp2_with fail
                            refine Calls.mono (written_any (x q) (x (q + 1)) (ys.getD k 0) wA (HX.out q (by have := HQL.out; omega)) (HX.out (q + 1) HQL.out)) ?_
                            rintro e w5 ⟨rfl, hb⟩
                            have hS : AryAt w5 B x ∧ Below w.heap.size w w5 := ⟨hS.1.below hb, hS.2.trans (hb.mono hS.2.size)⟩
                            clear hb
                            go_wp2_with fail
                            refine ⟨rfl, hK _ _ hS ?_⟩
                            clear hK K
                            refine MixH.take 1 12 _ (.string (txB ((preT (DD x ys) x I J k ++ SEP) ++ wrD (cpW (ys.getD k 0)) (stW (ys.getD k 0)) (x q) (x (q + 1))))) rfl (by kernel_rfl) (by kernel_rfl) (by kernel_rfl) (by kernel_rfl) (yields_cat (.tmp 95) (.tmp 106) rfl (preT (DD x ys) x I J k ++ SEP) (wrD (cpW (ys.getD k 0)) (stW (ys.getD k 0)) (x q) (x (q + 1))) _ rfl rfl rfl rfl (by have := preT_len x (DD_len x ys) I J k; have := HK.out; have := HSEP.out.2; have := wrD_len (cpW (ys.getD k 0)) (stW (ys.getD k 0)) (x q) (x (q + 1)); rw [List.length_append]; omega)) hS (fun a' ha => ?_)
                            simp only [Act.put, List.setIfInBounds_toArray, List.set_cons_succ, List.set_cons_zero] at ha
                            subst ha
                            refine MixH.takes [false, false, false, false, false, false, false, false, false, false, false, false, false, true] 0 (by kernel_rfl) (by kernel_rfl) (by decide) (by kernel_rfl) hS (fun K hK => ?_)
                            simp only [Mix.pick]
                            repeat (go_big_quiet_step (fail))
                            refine wpQuiet_nil (hK _ ?_)
                            clear hK K
                            refine MixH.done (by kernel_rfl) ?_
                            have HS2 : Hid (AryAt w5 B x ∧ Below w.heap.size w w5) := hS
                            clear hS
                            go_wp2
                            go_roundw
                            case rel => exact ⟨k + 1, by rw [HP.out, HSEP.out.1, DD_at x ys (show k < 8 by have := HK.out; omega)]; unfold dW; rw [HQ.out]; by_cases h : 0 < k ∧ k ≠ J <;> simp [h], by simp, HK.out, HS2.out⟩
                            case measure => have := HK.out; simp [intOf]; omega
              · have HE : Hid (k = 6) := by have := HO.out.1; show k = 6; omega
                obtain rfl := HE.out
                have HW1 : Hid (AryAt wr B x ∧ Below w.heap.size w wr) := HO.out.2
                obtain ⟨SEP, hSEP⟩ : ∃ SEP : List Nat, SEP = if J ≠ 6 ∨ I = J then [58] else [] := ⟨_, rfl⟩
                have HSEP : Hid (SEP = (if J ≠ 6 ∨ I = J then [58] else []) ∧ SEP.length ≤ 1) := ⟨hSEP, by rw [hSEP]; split <;> simp⟩
                clear hSEP
                clear HO hlt HE hk1
                go_upto_region 27 with fail
                go_cut [116] (fun u wx => u = .bool (decide (J ≠ 6 ∨ I = J)) ∧ wr = wx)
                case first =>
                  by_cases h1 : J = 6
                  · subst h1
                    by_cases h2 : I = 6
                    · subst h2
                      have HD : Hid (decide ((6 : Nat) ≠ 6 ∨ (6 : Nat) = 6) = true) := rfl
                      go_wp2
                      go_meet
                      exact ⟨by rw [HD.out], rfl⟩
                    · have HD : Hid (decide ((6 : Nat) ≠ 6 ∨ I = 6) = false) := decide_eq_false (by omega)
                      have g3 : ((I : Int) == 6) = false := by simp; omega
                      have g4 : (I == 6) = false := by simp; omega
                      have g5 : ¬ (I : Int) = 6 := by omega
                      go_wp2
                      go_meet
                      exact ⟨by rw [HD.out], rfl⟩
                  · have HD : Hid (decide (J ≠ 6 ∨ I = J) = true) := decide_eq_true (.inl h1)
                    have g1 : ((J : Int) != 6) = true := by simp; omega
                    have g2 : ¬ (J : Int) = 6 := by omega
                    clear h1
                    go_wp2
                    go_meet
                    exact ⟨by rw [HD.out], rfl⟩
                case rest =>
                  obtain ⟨rfl, rfl⟩ := hcut
                  go_upto_if 116 with fail
                  go_cut [13] (fun u wx => u = .string (txB (preT (DD x ys) x I J 6 ++ SEP)) ∧ wr = wx)
                  case first =>
                    by_cases h0 : J ≠ 6 ∨ I = J
                    · have HS : Hid (SEP = [58]) := by have := HSEP.out.1; rw [if_pos h0] at this; exact this
                      rw [decide_eq_true h0]
                      clear h0
                      go_wp2_with (refine wpList_cat (.tmp 117) (.const (.string ⟨#[58]⟩)) rfl (preT (DD x ys) x I J 6) [58] _ _ rfl rfl rfl rfl rfl (by have := preT_len x (DD_len x ys) I J 6; simp only [List.length_cons, List.length_nil]; omega) ?_)
                      go_meet
                      exact ⟨by rw [HS.out], rfl⟩
                    · have HS : Hid (SEP = []) := by have := HSEP.out.1; rw [if_neg h0] at this; exact this
                      rw [decide_eq_false h0]
                      clear h0
                      go_wp2
                      go_meet
                      exact ⟨by rw [HS.out, List.append_nil], rfl⟩
                  case rest =>
                    obtain ⟨rfl, rfl⟩ := hcut
                    have HTX : Hid (preT (DD x ys) x I J 6 ++ (SEP ++ dots (x 12) (x 13) (x 14) (x 15)) = txt (DD x ys) x I J true) := by
                      show preT (DD x ys) x I J 6 ++ (SEP ++ dots (x 12) (x 13) (x 14) (x 15)) = txt (DD x ys) x I J true
                      rw [← preT_tail (DD x ys) x HF.out.1, HSEP.out.1]
                      by_cases h : J ≠ 6 ∨ I = J
                      · rw [if_pos h, if_pos h]; rfl
                      · rw [if_neg h, if_neg h]; rfl
                    have HW2 : Hid (AryAt wr B x ∧ Below w.heap.size w wr) := HW1.out
                    clear HW1
                    go_wp2_with (refine wpList_load_ar (.tmp 5) rfl B 0 x rfl (Ary_all HW2.out.1) rfl ?_)
                    refine (dots_any x wr HX.out).mono ?_
                    rintro e w5 ⟨rfl, hb⟩
                    have HW2 : Hid (AryAt w5 B x ∧ Below w.heap.size w w5) := ⟨HW2.out.1.below hb, HW2.out.2.trans (hb.mono HW2.out.2.size)⟩
                    clear hb
                    go_wp2_with (refine wpList_cat (.tmp 119) (.tmp 121) rfl (preT (DD x ys) x I J 6 ++ SEP) (dots (x 12) (x 13) (x 14) (x 15)) _ _ rfl rfl rfl rfl rfl (by have := preT_len x (DD_len x ys) I J 6; have := HSEP.out.2; have := dots_hi (x 12) (x 13) (x 14) (x 15); rw [List.length_append]; omega) ?_)
                    (try rw [List.append_assoc])
                    rw [HTX.out]
                    obtain ⟨y, hy1, hy2⟩ := forms_read HX.out ys (tail := true) HF.out.1 HF.out.2.1 HF.out.2.2
                    have HPI : Hid (pIP (txB (txt (DD x ys) x I J true)) = .inl (6, y) ∧ ((6 : Int) == 6 && same16 y x) = true) := ⟨hy1, by rw [hy2]; rfl⟩
                    clear hy1 hy2

                    refine (parseIP_any (txB (txt (DD x ys) x I J true)) w5).mono ?_
                    rintro e w2 ⟨rfl, hb⟩
                    have H2 : Hid (AryAt w2 B x ∧ Below w.heap.size w w2) := ⟨HW2.out.1.below hb, HW2.out.2.trans (hb.mono HW2.out.2.size)⟩
                    clear hb
                    rw [HPI.out.1]
                    show _
                    simp only [ipO]
                    obtain ⟨O1, hO⟩ : ∃ O_, O_ = w2.heap.size := ⟨_, rfl⟩
                    have HO1 : Hid (w2.heap.size = O1) := hO.symm
                    clear hO
                    go_wp2_with (refine wpList_store_ipr (.tmp 16) (.tmp 126) rfl rfl w2.heap.size 0 (fun _ => 0) 6 y rfl rfl (ipr_new w2 0 (fun _ => 0)) rfl ?_)
                    intro w3 hRE kE
                    rw [HO1.out] at hRE kE ⊢
                    have bN : Below w2.heap.size w2 w3 := ((Below.refl _ _).alloc (Nat.le_refl _) _).trans (kE.below (fun q h => by have h' : q = O1 := h; have := HO1.out; omega) (by rw [World.size_alloc]; omega))
                    have H3 : Hid (IprAt w3 O1 6 y ∧ AryAt w3 B x ∧ Below w.heap.size w w3) := ⟨hRE, H2.out.1.below bN, H2.out.2.trans (bN.mono H2.out.2.size)⟩
                    clear hRE kE bN
                    go_wp2_with fail
                    refine (started_any w3 (HTT.out.p.below H3.out.2.2) (HTT.out.s.old H3.out.2.2)).mono ?_
                    rintro e w4 ⟨rfl, hb⟩
                    have H4 : Hid (IprAt w4 O1 6 y ∧ AryAt w4 B x ∧ Below w.heap.size w w4) := ⟨H3.out.1.below hb, H3.out.2.1.below hb, H3.out.2.2.trans (hb.mono H3.out.2.2.size)⟩
                    clear hb
                    go_wp2_with fail
                    refine (num4_any _ w4).mono ?_
                    rintro e wz ⟨rfl, rfl⟩
                    go_wp2_with (first | (refine wpList_load_ipr (.tmp 16) rfl O1 6 y rfl H4.out.1 rfl ?_) | (refine wpList_load_ar (.tmp 5) rfl B 0 x rfl (Ary_all H4.out.2.1) rfl ?_) | (refine wpList_bip6 (.const (.int .i64 6)) (.tmp 141) rfl 6 x rfl rfl rfl ?_) | (refine wpList_eql_ipb (.tmp 140) (.tmp 142) rfl 6 6 y x rfl rfl true HPI.out.2 rfl ?_))
                    go_ret
                    exact ⟨rfl, H4.out.2.2⟩
end Go.Proofs.YtfeabifjnihooaaDoor
