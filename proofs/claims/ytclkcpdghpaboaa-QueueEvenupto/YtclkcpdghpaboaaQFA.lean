/-
  Layer 18: limitsMayBe, New.
-/
import Derived.Test.YtclkcpdghpaboaaQF9
namespace Go.Proofs.Ytclkcpdghpaboaa
open Go.RowKit

def lmB (l : LI) : Bool := inB l.q 64 65535 && (inB l.it 1 4096 && (inB l.by' 1 67108864 && (inB l.ra 0 67108864 && (l.ra == 0 || inB l.bu 65535 268435456))))
theorem inB_iff {n lo hi : Int} : inB n lo hi = true ↔ lo ≤ n ∧ n ≤ hi := by simp [inB]
theorem lmB_ok {l : LI} (h : lmB l = true) : LiOk l := by
  simp only [lmB, Bool.and_eq_true, Bool.or_eq_true, inB_iff, beq_iff_eq] at h
  obtain ⟨h1, h2, h3, h4, h5⟩ := h
  exact ⟨h1, h2, h3, h4, fun hr => h5.resolve_left (by omega)⟩
set_option maxHeartbeats 1600000 in
set_option maxRecDepth 100000 in
theorem limits_any (l : LI) (w : World) : Calls Try.prog 50 #[.agg (liA l)] w fun e w' => e = .returned (.bool (lmB l)) ∧ Below w.heap.size w w' := by
  have hb := lim_new w l
  have bel : Below w.heap.size w (w.alloc (.cells (liA l) 36)) := (Below.refl _ _).alloc (Nat.le_refl _) _
  obtain ⟨CX, hC⟩ : ∃ C, C = liA l := ⟨_, rfl⟩
  obtain ⟨W, hW⟩ : ∃ W_, W_ = w.alloc (.cells (liA l) 36) := ⟨_, rfl⟩
  rw [← hW] at hb bel
  have HSZX : Hid (W.heap.size = w.heap.size + 1) := by show _ = _; rw [hW, World.size_alloc]
  obtain ⟨B, hB⟩ : ∃ B, B = w.heap.size := ⟨_, rfl⟩
  rw [← hB] at hb
  have HBX : Hid (LimAt W B l) := hb
  rw [← hC] at hW ⊢
  have HOX : Hid (w.heap.size = B) := hB.symm
  have HLX : Hid (Below w.heap.size w W) := bel
  have HWX : Hid (w.alloc (.cells CX 36) = W) := hW.symm
  clear hb hW hB hC bel
  go_enter Try.func50, Try.ntmps50
  go_upto_region 1 with fail
  rw [HOX.out, HWX.out]
  have c0 : W.cell? ⟨B, 0, none⟩ = some (.int .i64 l.q) := HBX.out.cell 0
  have Q0 : Hid _ := within_any l.q 64 65535 W
  obtain ⟨b0, hb0⟩ : ∃ b, inB l.q 64 65535 = b := ⟨_, rfl⟩
  have HB0 : Hid (inB l.q 64 65535 = b0) := hb0
  rw [hb0] at Q0
  clear hb0
  go_wp2_with fail
  refine Calls.mono Q0.out ?_
  rintro e0 w0 ⟨rfl, rfl⟩
  clear Q0 c0
  cases b0 with
  | false =>
    have HR : Hid (lmB l = false) := by show _ = _; unfold lmB; rw [HB0.out]; simp
    go_wp2_with fail
    go_ret
    exact ⟨by rw [HR.out]; rfl, HLX.out⟩
  | true =>
    have c1 : W.cell? ⟨B, 1, none⟩ = some (.int .i64 l.it) := HBX.out.cell 1
    have Q1 : Hid _ := within_any l.it 1 4096 W
    obtain ⟨b1, hb1⟩ : ∃ b, inB l.it 1 4096 = b := ⟨_, rfl⟩
    have HB1 : Hid (inB l.it 1 4096 = b1) := hb1
    rw [hb1] at Q1
    clear hb1
    go_wp2_with fail
    refine Calls.mono Q1.out ?_
    rintro e1 w1 ⟨rfl, rfl⟩
    clear Q1 c1
    cases b1 with
    | false =>
      have HR : Hid (lmB l = false) := by show _ = _; unfold lmB; rw [HB0.out, HB1.out]; simp
      go_wp2_with fail
      go_ret
      exact ⟨by rw [HR.out]; rfl, HLX.out⟩
    | true =>
      have c2 : W.cell? ⟨B, 2, none⟩ = some (.int .i64 l.by') := HBX.out.cell 2
      have Q2 : Hid _ := within_any l.by' 1 67108864 W
      obtain ⟨b2, hb2⟩ : ∃ b, inB l.by' 1 67108864 = b := ⟨_, rfl⟩
      have HB2 : Hid (inB l.by' 1 67108864 = b2) := hb2
      rw [hb2] at Q2
      clear hb2
      go_wp2_with fail
      refine Calls.mono Q2.out ?_
      rintro e2 w2 ⟨rfl, rfl⟩
      clear Q2 c2
      cases b2 with
      | false =>
        have HR : Hid (lmB l = false) := by show _ = _; unfold lmB; rw [HB0.out, HB1.out, HB2.out]; simp
        go_wp2_with fail
        go_ret
        exact ⟨by rw [HR.out]; rfl, HLX.out⟩
      | true =>
        have c3 : W.cell? ⟨B, 3, none⟩ = some (.int .i64 l.ra) := HBX.out.cell 3
        have Q3 : Hid _ := within_any l.ra 0 67108864 W
        obtain ⟨b3, hb3⟩ : ∃ b, inB l.ra 0 67108864 = b := ⟨_, rfl⟩
        have HB3 : Hid (inB l.ra 0 67108864 = b3) := hb3
        rw [hb3] at Q3
        clear hb3
        go_wp2_with fail
        refine Calls.mono Q3.out ?_
        rintro e3 w3 ⟨rfl, rfl⟩
        clear Q3 c3
        cases b3 with
        | false =>
          have HR : Hid (lmB l = false) := by show _ = _; unfold lmB; rw [HB0.out, HB1.out, HB2.out, HB3.out]; simp
          go_wp2_with fail
          go_ret
          exact ⟨by rw [HR.out]; rfl, HLX.out⟩
        | true =>
          have c3 : W.cell? ⟨B, 3, none⟩ = some (.int .i64 l.ra) := HBX.out.cell 3
          have c4 : W.cell? ⟨B, 4, none⟩ = some (.int .i64 l.bu) := HBX.out.cell 4
          by_cases hz : l.ra = 0
          · have qz : (l.ra == 0) = true := by simp [hz]
            have HR : Hid (lmB l = true) := by show _ = _; unfold lmB; rw [HB0.out, HB1.out, HB2.out, HB3.out, qz]; rfl
            clear hz
            go_wp2_with fail
            go_ret
            exact ⟨by rw [HR.out]; rfl, HLX.out⟩
          · have qz : (l.ra == 0) = false := by simp [hz]
            have HR : Hid (lmB l = inB l.bu 65535 268435456) := by show _ = _; unfold lmB; rw [HB0.out, HB1.out, HB2.out, HB3.out, qz]; rfl
            clear hz
            have Q4 : Hid _ := within_any l.bu 65535 268435456 W
            go_wp2_with fail
            refine Calls.mono Q4.out ?_
            rintro e5 w5 ⟨rfl, rfl⟩
            clear Q4
            go_wp2_with fail
            go_ret
            exact ⟨by rw [HR.out]; rfl, HLX.out⟩
def nwB (ls : List LI) : Bool := (decide (1 ≤ ls.length) && decide (ls.length ≤ 8)) && ls.all lmB
def mk (l : LI) : CM := ⟨⟨l, [], l.bu⟩, vz, 0, [], 0⟩
def zm : CM := ⟨cz, vz, 0, [], 0⟩
theorem mk_ln (w : World) (l : LI) : LnOk w (mk l) := ⟨GL.nil, .inr ⟨rfl, rfl⟩, Nat.le_refl _, fun k hk => by simp [mk] at hk, Nat.zero_le _, fun _ => rfl⟩
theorem new_qq {w : World} {P G : Nat} {ls : List LI} (hb : nwB ls = true) (hq : QueAt w P (.slice (some ⟨G, 0, none⟩) ls.length ls.length) tz) (hg : GL 10 cmL 98 w 0 (.slice (some ⟨G, 0, none⟩) ls.length ls.length) (ls.map mk)) : QQ w P G (ls.map mk) tz := by
  simp only [nwB, Bool.and_eq_true, decide_eq_true_eq, List.all_eq_true] at hb
  refine ⟨⟨by rw [List.length_map]; exact hq, by rw [List.length_map]; exact hg, fun m hm => ?_, fun i j mi mj _ h1 _ q hq' => ?_⟩, fun m hm => ?_, ⟨?_, fun c hc => ?_, ⟨?_, fun _ _ => Int.le_refl _, fun _ _ => .inr (by show (0 : Int) ≤ 65535; decide), fun _ _ => by show (0 : Int) ≤ 131070; decide, fun _ _ _ => rfl⟩⟩⟩
  · obtain ⟨l, _, rfl⟩ := List.mem_map.1 hm
    exact mk_ln w l
  · obtain ⟨l, _, rfl⟩ := List.mem_map.1 (List.mem_of_getElem? h1)
    cases hq'
  · obtain ⟨l, _, rfl⟩ := List.mem_map.1 hm
    rfl
  · rw [csOf_len, List.length_map]; exact hb.1
  · obtain ⟨m, hm, rfl⟩ := List.mem_map.1 hc
    obtain ⟨l, hl, rfl⟩ := List.mem_map.1 hm
    have h1 := lmB_ok (hb.2 l hl)
    refine ⟨h1, ?_, ?_, fun x hx => by simp [mk] at hx, fun hr => ?_⟩
    · have := h1.it; show ((0 : Nat) : Int) ≤ l.it; omega
    · have := h1.by'; show (0 : Int) ≤ l.by'; omega
    · have := h1.bu hr; show 0 ≤ l.bu ∧ l.bu ≤ l.bu; omega
  · rw [csOf_len, List.length_map]
    show 0 < ls.length
    omega
def NewP (w : World) (ls : List LI) (e : Ending) (w' : World) : Prop :=
  (nwB ls = true ∧ ∃ P G, e = .returned (.tuple #[.pointer (some ⟨P, 0, none⟩), .int .i64 0]) ∧ QQ w' P G (ls.map mk) tz ∧ Below w.heap.size w w' ∧ w.heap.size ≤ P ∧ w.heap.size ≤ G) ∨
  (nwB ls = false ∧ e = .returned (.tuple #[.pointer none, .int .i64 180]) ∧ Below w.heap.size w w')
theorem zero_cm : ∃ i, Try.prog.info? 98 = some i ∧ i.zero.map Value.cells = some (cmL zm).toArray ∧ i.size = 10 ∧ i.bytes ≤ 1000 := zero_of (by kernel_rfl)
theorem run_bcls (l : LI) (w : World) : (Instr.build 98 #[(0, .agg (liA l)), (3, .int .i64 l.bu)]).run Try.prog w = .ok (.agg (cmA (mk l))) w := by kernel_rfl
theorem yields_bcls {ops : Array Oper} {o : Oper} {a : Act} {S : World → Prop} (y0 y1 : Operand) (ho : o.op = .build 98 #[(0, y0), (3, y1)]) (l : LI) (h0 : a.eval y0 = .agg (liA l)) (h1 : a.eval y1 = .int .i64 l.bu) (hw : Region.wanted o (yielded ops a.tmps) = true) : YieldsIf Try.prog ops S o (.agg (cmA (mk l))) a := by
  refine .inl ⟨hw, fun w _ => ?_⟩
  obtain ⟨dst, op, type, pos, after, guard⟩ := o
  simp only at ho
  subst ho
  simp only [execOp, Sem.run_bind, List.map_toArray, List.map_cons, List.map_nil, h0, h1, run_bcls l w, Result.andThen_ok]
  rfl
theorem wpList_setR {α : Type} {K : Nat} {cells : α → List Value} {ops : Array Oper} {rest : List Oper} {o : Oper} {a : Act} {w : World} {Q : Exit → Act → World → Prop} (hcl : ∀ o, (cells o).length = K) (e : TypeId) (hinfo : Info e K) (x y : Operand) (ho : o.op = .store e x y) (hd : o.dst = none) (base g n cap : Nat) (L : List α) (i off : Nat) (r : α) (hx : a.eval x = .pointer (some ⟨g, off, none⟩)) (hoff : off = i * K) (hy : a.eval y = .agg (cells r).toArray) (h1r : ∀ u ∈ cells r, u.oneCell' = true) (h : GL K cells e w base (.slice (some ⟨g, 0, none⟩) n cap) L) (hl : i < n)
    (hw : Region.wanted o (yielded ops a.tmps) = true) (hh : ∀ w', GL K cells e w' base (.slice (some ⟨g, 0, none⟩) n cap) (L.set i r) → Ch (fun q => q = g) w w' → wpList Try.prog ops Q rest a w') : wpList Try.prog ops Q (o :: rest) a w := by
  have hn := h.len
  subst hoff
  have ht : w.there g (i * K) (cells r).toArray.size := h.there i _ hl (by simp [hcl])
  refine wpList_step fun K' hK => ?_
  rw [if_pos hw]
  refine wp_store_mid e x y ho g (i * K) (cells r).toArray hx hy ht (by rw [hinfo.size]; simp [hcl]) (by simpa using h1r) (hK _ _ ?_)
  rw [hd]
  have h1 : w.ownsRow base e K (.slice (some ⟨g, 0, none⟩) n cap) n (L.flatMap cells) := by have h0 := h; unfold GL at h0; rw [← hn] at h0; exact h0
  have h2 := own_setCells (cells r) (i * K) w (L.flatMap cells) h1 (by
    rw [hcl, fmc_len K cells hcl]
    calc i * K + K = (i + 1) * K := by rw [Nat.succ_mul]
      _ ≤ L.length * K := Nat.mul_le_mul_right K (by omega))
  have e2 := fmc_put K cells hcl L [r] i (by simp; omega)
  rw [set_put L i r (by omega), List.flatMap_cons, List.flatMap_nil, List.append_nil] at e2
  rw [e2] at h2
  refine hh _ ?_ (ch_setCells w g _ _)
  show World.ownsRow _ base e K _ (L.set i r).length ((L.set i r).flatMap cells)
  rw [List.length_set, ← hn]
  exact h2
theorem mk_one (l : LI) : ∀ u ∈ cmL (mk l), u.oneCell' = true := by simp [cmL, cmA, mk, vz, Value.oneCell']
theorem ListG.rng {α : Type} {K : Nat} {cells : α → List Value} {ok : α → Prop} {w : World} {a : Option Addr} {L : List α} (h : ListG K cells ok w a L) (hcl : ∀ o, (cells o).length = K) (i : Nat) (o : α) (ho : L[i]? = some o) : ∃ b off, a = some ⟨b, off, none⟩ ∧ w.rangeAt b (off + i * K) (cells o) := by
  obtain ⟨_, b, off, ha, _, hc⟩ := h.at i o ho
  refine ⟨b, off, ha, fun j v hj => ?_⟩
  have hj' : j < K := by have := (List.getElem?_eq_some_iff.1 hj).1; rwa [hcl] at this
  rw [hc j hj']
  exact hj
theorem LimAt.all {w : World} {O : Nat} {x : LI} (h : LimAt w O x) : w.rangeAt O 0 (liA x).toList := by
  have e := LimAt.range h 0 (liA x).size
  rwa [Nat.zero_add, Array.extract_size] at e
theorem all_take {ls : List LI} {k : Nat} {l : LI} (h : ls[k]? = some l) : (ls.take (k + 1)).all lmB = ((ls.take k).all lmB && lmB l) := by
  have hk := (List.getElem?_eq_some_iff.1 h).1
  have e : ls[k] = l := by rw [List.getElem?_eq_getElem hk] at h; exact Option.some.inj h
  rw [List.take_succ_eq_append_getElem hk, List.all_append, e]
  simp
theorem all_false {ls : List LI} {k : Nat} {l : LI} (h : ls[k]? = some l) (hl : lmB l = false) : ls.all lmB = false := by
  rw [List.all_eq_false]
  exact ⟨l, List.mem_of_getElem? h, by rw [hl]; decide⟩
theorem laid_next {ls : List LI} {n k : Nat} {l : LI} (hn : n = ls.length) (h : ls[k]? = some l) : ((ls.take k).map mk ++ List.replicate (n - k) zm).set k (mk l) = (ls.take (k + 1)).map mk ++ List.replicate (n - (k + 1)) zm := by
  have hk := (List.getElem?_eq_some_iff.1 h).1
  have e : ls[k] = l := by rw [List.getElem?_eq_getElem hk] at h; exact Option.some.inj h
  have h1 : ((ls.take k).map mk).length = k := by rw [List.length_map, List.length_take]; omega
  rw [List.take_succ_eq_append_getElem hk, e, List.map_append, List.set_append, if_neg (by omega), h1, Nat.sub_self, show n - k = (n - (k + 1)) + 1 by omega, List.replicate_succ, List.set_cons_zero]
  simp
theorem run_bque (a_0 : Nat) (n_0 : Nat) (v : Value) (hv : v = .slice (some ⟨a_0, 0, none⟩) n_0 n_0) (w : World) : (Instr.build 104 #[(0, v)]).run Try.prog w = .ok (.agg (quA v tz)) w := by subst hv; kernel_rfl
theorem wpList_bque {ops : Array Oper} {rest : List Oper} {o : Oper} {a_ : Act} {w : World} {Q : Exit → Act → World → Prop} (y0 : Operand) (ho : o.op = .build 104 #[(0, y0)]) (a_0 n_0 : Nat) (v : Value) (hv : v = .slice (some ⟨a_0, 0, none⟩) n_0 n_0) (h0 : a_.eval y0 = v) (hw : Region.wanted o (yielded ops a_.tmps) = true)
    (h : wpList Try.prog ops Q rest (a_.put o.dst (.agg (quA v tz))) w) : wpList Try.prog ops Q (o :: rest) a_ w := by
  refine wpList_step fun K hK => ?_
  rw [if_pos hw]
  have hrun : (execOp a_.eval o).run Try.prog w = .ok (.value (.agg (quA v tz))) w := by
    obtain ⟨dst, op, type, pos, after, guard⟩ := o
    simp only at ho
    subst ho
    simp only [execOp, Sem.run_bind, List.map_toArray, List.map_cons, List.map_nil, h0, run_bque a_0 n_0 v hv w, Result.andThen_ok]
    rfl
  unfold Oper.wp
  rw [hrun]
  exact hK _ _ h
set_option maxHeartbeats 1600000 in
set_option maxRecDepth 100000 in
theorem new_any (a : Option Addr) (n cap : Nat) (ls : List LI) (ok : LI → Prop) (w : World) (hl : ls.length = n) (hL : ListG 5 liL ok w a ls) (hn : n ≤ 2000000) : Calls Try.prog 36 #[.slice a n cap] w fun e w' => NewP w ls e w' := by
  have HL : Hid (ls.length = n ∧ ListG 5 liL ok w a ls) := ⟨hl, hL⟩
  clear hL hl
  have Q1 : Hid _ := within_any (n : Int) 1 8 w
  obtain ⟨b1, hb1⟩ : ∃ b, inB (n : Int) 1 8 = b := ⟨_, rfl⟩
  have HB1 : Hid (inB (n : Int) 1 8 = b1) := hb1
  rw [hb1] at Q1
  clear hb1
  go_enter Try.func36, Try.ntmps36
  go_wp2_with fail
  refine Calls.mono Q1.out ?_
  rintro e1 w1 ⟨rfl, rfl⟩
  clear Q1
  cases b1 with
  | false =>
    have HR : Hid (nwB ls = false) := by
      show _ = _
      have h1 := HB1.out
      unfold nwB
      rw [HL.out.1]
      simp only [inB, Bool.and_eq_false_iff, decide_eq_false_iff_not] at h1 ⊢
      omega
    go_wp2_with fail
    go_ret2
    exact .inr ⟨HR.out, rfl, Below.refl _ _⟩
  | true =>
    have h18 : 1 ≤ n ∧ n ≤ 8 := by have h1 := inB_iff.1 HB1.out; omega
    have H18 : Hid (1 ≤ n ∧ n ≤ 8) := h18
    clear h18
    obtain ⟨G, hG⟩ : ∃ G, w.heap.size = G := ⟨_, rfl⟩
    go_upto_region 3 with fail
    go_wp2_with (first | (at_make; refine wpList_makeG cmL_len (by decide) zm rfl (.tmp 12) (.tmp 12) 99 98 rfl Try.underlying99 zero_cm 0 _ _ n rfl rfl rfl rfl (by have := H18.out; omega) (Nat.zero_le _) ?_; intro w1 gl1 b1) | (refine wpList_bque (.tmp 13) rfl w.heap.size n _ rfl rfl rfl ?_))
    obtain ⟨P, hP⟩ : ∃ P, w1.heap.size = P := ⟨_, rfl⟩
    obtain ⟨w2, hw2⟩ : ∃ w2, w2 = w1.alloc (.cells (quA (.slice (some ⟨G, 0, none⟩) n n) tz) 104) := ⟨_, rfl⟩
    have HI2 : Hid (QueAt w2 P (.slice (some ⟨G, 0, none⟩) n n) tz ∧ GL 10 cmL 98 w2 0 (.slice (some ⟨G, 0, none⟩) n n) ((ls.take 0).map mk ++ List.replicate (n - 0) zm) ∧ Below w.heap.size w w2 ∧ w.heap.size = G ∧ G < P) := by
      have hk := (gl1.kind w.heap.size rfl).2.1
      have b2 : Below w1.heap.size w1 w2 := by rw [hw2]; exact (Below.refl _ _).alloc (Nat.le_refl _) _
      have g2 := gl1.below b2
      rw [hG] at g2 hk
      refine ⟨?_, ?_, bthen b1 b2, hG, by omega⟩
      · rw [hw2, ← hP]; exact que_new _ _ _
      · rw [List.take_zero, List.map_nil, List.nil_append, Nat.sub_zero]; exact g2
    rw [hP, ← hw2]
    clear hG hP hw2 gl1 b1
    go_loopw [18] (fun iv wr => ∃ k : Nat, k ≤ n ∧ iv = .int .i64 (k : Nat) ∧ Hid ((ls.take k).all lmB = true ∧ QueAt wr P (.slice (some ⟨G, 0, none⟩) n n) tz ∧ GL 10 cmL 98 wr 0 (.slice (some ⟨G, 0, none⟩) n n) ((ls.take k).map mk ++ List.replicate (n - k) zm) ∧ Below w.heap.size w wr)) (fun iv _ => n - (intOf iv).toNat)
    case atStart => exact ⟨0, Nat.zero_le _, rfl, rfl, HI2.out.1, HI2.out.2.1, HI2.out.2.2.1⟩
    case round =>
      obtain ⟨k, hk, rfl, HR⟩ := hrel
      by_cases hkn : k < n
      · have p1 : decide ((k : Int) < (n : Int)) = true := decide_eq_true (by omega)
        have p2 : decide (k < n) = true := decide_eq_true hkn
        have k0 : (0 : Int) ≤ (k : Int) := by omega
        have k1 : (k : Int) < (n : Int) := by omega
        have k2 : ((k : Int)).toNat = k := by omega
        have w1' : IntKind.i64.wrap ((k : Int) + 1) = (k : Int) + 1 := i64_s _ (by omega) (by have := H18.out; omega)
        obtain ⟨l, hl⟩ : ∃ l, ls[k]? = some l := ⟨_, List.getElem?_eq_getElem (by rw [HL.out.1]; exact hkn)⟩
        have HLK : Hid (ls[k]? = some l ∧ k < n) := ⟨hl, hkn⟩
        obtain ⟨ab, off, ha, hra⟩ := (HL.out.2.old HR.out.2.2.2).rng liL_len k l hl
        subst ha
        have HRA : Hid (wr.rangeAt ab (off + k * 5) (liA l).toList) := hra
        clear hl hra
        go_upto_region 6 with fail
        go_wp2_with (first | (refine wpList_mid_lim (.tmp 21) rfl ab (off + k * 5) l rfl HRA.out rfl ?_) | (refine wpList_alloc_lim rfl rfl ?_) | (refine wpList_store_lim (.tmp 6) (.tmp 22) rfl rfl wr.heap.size lz l rfl rfl (lim_new wr lz) rfl ?_))
        intro w3 h3 k3
        obtain ⟨B, hB⟩ : ∃ B, wr.heap.size = B := ⟨_, rfl⟩
        rw [hB] at h3 k3 ⊢
        have HZ3 : Hid (LimAt w3 B l ∧ QueAt w3 P (.slice (some ⟨G, 0, none⟩) n n) tz ∧ GL 10 cmL 98 w3 0 (.slice (some ⟨G, 0, none⟩) n n) ((ls.take k).map mk ++ List.replicate (n - k) zm) ∧ Below w.heap.size w w3) := by
          have b0 : Below wr.heap.size wr (wr.alloc (.cells (liA lz) 36)) := (Below.refl _ _).alloc (Nat.le_refl _) _
          have b2 : Below wr.heap.size wr w3 := b0.trans (k3.below (fun q hq => by omega) b0.size)
          exact ⟨h3, HR.out.2.1.below b2, HR.out.2.2.1.below b2, bthen HR.out.2.2.2 b2⟩
        clear h3 k3 hB HRA
        have QM : Hid _ := limits_any l w3
        obtain ⟨lb, hlb⟩ : ∃ lb, lmB l = lb := ⟨_, rfl⟩
        have HLB : Hid (lmB l = lb) := hlb
        rw [hlb] at QM
        clear hlb
        go_upto_region 7 with fail
        go_wp2_with (first | (refine wpList_load_lim (.tmp 6) rfl B l rfl HZ3.out.1 rfl ?_))
        refine Calls.mono QM.out ?_
        rintro e4 w4 ⟨rfl, b4⟩
        have HZ4 : Hid (LimAt w4 B l ∧ QueAt w4 P (.slice (some ⟨G, 0, none⟩) n n) tz ∧ GL 10 cmL 98 w4 0 (.slice (some ⟨G, 0, none⟩) n n) ((ls.take k).map mk ++ List.replicate (n - k) zm) ∧ Below w.heap.size w w4) := ⟨HZ3.out.1.below b4, HZ3.out.2.1.below b4, HZ3.out.2.2.1.below b4, bthen HZ3.out.2.2.2 b4⟩
        clear b4 QM
        cases lb with
        | false =>
          have HF : Hid (nwB ls = false) := by show _ = _; unfold nwB; rw [all_false HLK.out.1 HLB.out, Bool.and_false]
          go_wp2_with fail
          go_ret2
          exact .inr ⟨HF.out, rfl, HZ4.out.2.2.2⟩
        | true =>
          have HAL : Hid ((ls.take (k + 1)).all lmB = true) := by show _ = _; rw [all_take HLK.out.1, HR.out.1, HLB.out]; rfl
          go_upto_region 9 with fail
          refine MixH.start (fun A => QueAt A P (.slice (some ⟨G, 0, none⟩) n n) tz ∧ LimAt A B l) (by kernel_rfl) ?_
          obtain ⟨wA, hwA⟩ : ∃ W_, W_ = w4.drew := ⟨_, rfl⟩
          have bdr : Below w4.heap.size w4 wA := by rw [hwA]; exact (Below.refl _ _).drew
          have hS : QueAt wA P (.slice (some ⟨G, 0, none⟩) n n) tz ∧ LimAt wA B l := ⟨HZ4.out.2.1.below bdr, HZ4.out.1.below bdr⟩
          have HA : Hid (GL 10 cmL 98 wA 0 (.slice (some ⟨G, 0, none⟩) n n) ((ls.take k).map mk ++ List.replicate (n - k) zm) ∧ Below w.heap.size w wA) := ⟨HZ4.out.2.2.1.below bdr, bthen HZ4.out.2.2.2 bdr⟩
          rw [← hwA]
          clear hwA bdr
          refine MixH.takes [true, true, true, false, true, false, true] 6 (by kernel_rfl) (by kernel_rfl) (by decide) (by kernel_rfl) hS (fun K hK => ?_)
          simp only [Mix.pick]
          repeat (go_big_quiet_step (fail))
          refine wpQuiet_nil (hK _ ?_)
          clear hK K
          refine MixH.take 5 3 _ (.slice (some ⟨G, 0, none⟩) n n) rfl (by kernel_rfl) (by kernel_rfl) (by kernel_rfl) (by kernel_rfl) (yields_cls (.tmp 28) rfl ⟨P, 0, none⟩ (.slice (some ⟨G, 0, none⟩) n n) rfl rfl (fun A hA => QueAt.cell hA.1 0)) hS (fun a' ha => ?_)
          simp only [Act.put, List.setIfInBounds_toArray, List.set_cons_succ, List.set_cons_zero] at ha
          subst ha
          refine MixH.take 4 5 _ (.agg (liA l)) rfl (by kernel_rfl) (by kernel_rfl) (by kernel_rfl) (by kernel_rfl) (yields_lim (.tmp 6) rfl B 0 l rfl rfl (fun A hA => hA.2.all)) hS (fun a' ha => ?_)
          simp only [Act.put, List.setIfInBounds_toArray, List.set_cons_succ, List.set_cons_zero] at ha
          subst ha
          refine MixH.take 3 7 _ (.int .i64 l.bu) rfl (by kernel_rfl) (by kernel_rfl) (by kernel_rfl) (by kernel_rfl) (yields_int (.tmp 32) rfl ⟨B, 4, none⟩ (.int .i64 l.bu) rfl rfl (fun A hA => LimAt.cell hA.2 4)) hS (fun a' ha => ?_)
          simp only [Act.put, List.setIfInBounds_toArray, List.set_cons_succ, List.set_cons_zero] at ha
          subst ha
          refine MixH.take 2 8 _ (.agg (cmA (mk l))) rfl (by kernel_rfl) (by kernel_rfl) (by kernel_rfl) (by kernel_rfl) (yields_bcls (.tmp 31) (.tmp 33) rfl l rfl rfl rfl) hS (fun a' ha => ?_)
          simp only [Act.put, List.setIfInBounds_toArray, List.set_cons_succ, List.set_cons_zero] at ha
          subst ha
          refine MixH.takes [false, false, false, false, false, false, false, false, false, true] 1 (by kernel_rfl) (by kernel_rfl) (by decide) (by kernel_rfl) hS (fun K hK => ?_)
          simp only [Mix.pick]
          repeat (go_big_quiet_step (fail))
          refine wpQuiet_nil (hK _ ?_)
          clear hK K
          refine MixH.one [false, false, false, false, false, false, false, false, false, false, true] 0 10 _ rfl rfl (by kernel_rfl) (by kernel_rfl) (fun K hK => ?_)
          simp only [Mix.pick]
          refine wpList_setR cmL_len 98 info_cm (.tmp 35) (.tmp 34) rfl rfl 0 G n n _ k (k * 10) (mk l) rfl rfl rfl (mk_one l) HA.out.1 HLK.out.2 rfl ?_
          intro w5 gl5 k5
          rw [laid_next HL.out.1.symm HLK.out.1] at gl5
          have hGB : G ≠ B := fun e => by
            have h1 := hS.2
            obtain ⟨_, _, c, h2⟩ := HA.out.1.kind G rfl
            unfold LimAt at h1
            rw [← e, h2] at h1
            simp only [Option.some.injEq, Obj.cells.injEq] at h1
            exact absurd h1.2.1 (by decide)
          have hO := HI2.out.2.2.2
          replace hS : QueAt w5 P (.slice (some ⟨G, 0, none⟩) n n) tz ∧ LimAt w5 B l := ⟨hS.1.ch k5 (by omega), hS.2.ch k5 (fun e => hGB e.symm)⟩
          have HZ5 : Hid (QueAt w5 P (.slice (some ⟨G, 0, none⟩) n n) tz ∧ GL 10 cmL 98 w5 0 (.slice (some ⟨G, 0, none⟩) n n) ((ls.take (k + 1)).map mk ++ List.replicate (n - (k + 1)) zm) ∧ Below w.heap.size w w5) := ⟨hS.1, gl5, HA.out.2.trans (k5.below (fun q hq => by omega) HA.out.2.size)⟩
          clear gl5 k5 hGB hO
          refine ⟨rfl, hK _ _ hS ?_⟩
          clear hK K
          refine MixH.done (by kernel_rfl) ?_
          clear hS
          go_wp2_with fail
          go_roundw
          case rel => exact ⟨k + 1, by omega, rfl, HAL.out, HZ5.out.1, HZ5.out.2.1, HZ5.out.2.2⟩
          case measure => simp only [intOf]; omega
      · have p1 : decide ((k : Int) < (n : Int)) = false := decide_eq_false (by omega)
        have p2 : decide (k < n) = false := decide_eq_false hkn
        have hkn' : k = n := by omega
        have HF : Hid (nwB ls = true ∧ QQ wr P G (ls.map mk) tz) := by
          have h1 := HR.out
          subst hkn'
          rw [List.take_of_length_le (by rw [HL.out.1]; exact Nat.le_refl _), Nat.sub_self, List.replicate_zero, List.append_nil] at h1
          have h2 : nwB ls = true := by unfold nwB; rw [h1.1, HL.out.1, decide_eq_true H18.out.1, decide_eq_true H18.out.2]; rfl
          exact ⟨h2, new_qq h2 (by rw [HL.out.1]; exact h1.2.1) (by rw [HL.out.1]; exact h1.2.2.1)⟩
        clear hkn hkn' hk
        go_wp2_with fail
        go_ret2
        exact .inl ⟨HF.out.1, P, G, rfl, HF.out.2, HR.out.2.2.2, by have := HI2.out.2.2.2; omega, by have := HI2.out.2.2.2; omega⟩
end Go.Proofs.Ytclkcpdghpaboaa
