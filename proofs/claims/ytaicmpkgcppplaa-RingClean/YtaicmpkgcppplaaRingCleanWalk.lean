/-
  The walk of RingClean: it answers true, whatever it is handed, and writes nothing that was there.
-/
import Derived.Test.YtaicmpkgcppplaaPort17
import Derived.Test.YtaicmpkgcppplaaOpenOpsR
namespace Go.Proofs.Ytaicmpkgcppplaa.ringClean
open Go.RowKit

theorem cnt_zero (pl : Nat → Nat) (j : Nat) : ∀ n, (∀ i, i < n → pl i ≠ j) → cnt pl n j = 0
  | 0, _ => rfl
  | n + 1, h => by rw [cnt, cnt_zero pl j n (fun i hi => h i (by omega)), if_neg (h n (by omega))]
theorem das {s : PS} (h : PInv s) (da : Nat → List Nat) : PInv { s with da := da } := ⟨h.nd, h.lt, h.fl, h.p1, h.p2, h.p3, h.p5, h.pr, h.ln⟩
/-- written full up to j -/
def fullC (c n j : Nat) : List Nat := List.replicate j c ++ List.replicate (n - j) 0
theorem fullC_len (c n j : Nat) (h : j ≤ n) : (fullC c n j).length = n := by simp [fullC]; omega
theorem fullC_at (c n j : Nat) (h : j < n) : (fullC c n j)[j]? = some 0 := by
  unfold fullC
  rw [List.getElem?_append_right (by simp)]
  simp [show 0 < n - j by omega]
theorem fullC_set (c n j : Nat) (h : j < n) : (fullC c n j).set j c = fullC c n (j + 1) := by
  unfold fullC
  rw [List.set_append_right _ _ (by simp), List.length_replicate, Nat.sub_self, show n - j = (n - (j + 1)) + 1 from by omega, List.replicate_succ, List.set_cons_zero, List.replicate_succ']
  simp
theorem fullC_lt (c n j : Nat) (h : c < 256) : ∀ x ∈ fullC c n j, x < 256 := by
  intro x hx
  simp [fullC] at hx
  omega
/-- what holds of the port at every round -/
structure At (w0 wr : World) (P gb gf gr gt : Nat) (p sz : Nat) (s : PS) : Prop where
  port : PortAt wr P gb gf gr gt s
  inv : PInv s
  pool : s.pool = p
  size : s.size = sz
  bel : Below w0.heap.size w0 wr
  blk : ∀ q, PB P gb gf gr gt s q → w0.heap.size ≤ q
theorem At.next {w0 wr w' : World} {P gb gf gr gt p sz : Nat} {s s' : PS} (h : At w0 wr P gb gf gr gt p sz s) (k : Played wr w' P gb gf gr gt s s') : At w0 w' P gb gf gr gt p sz s' :=
  ⟨k.port, k.inv, k.pool.trans h.pool, k.size.trans h.size, h.bel.trans (k.ch.below h.blk h.bel.size), fun q hq => (k.blk q hq).elim (h.blk q) (fun e => by have := h.bel.size; omega)⟩
theorem At.below {w0 wr w' : World} {P gb gf gr gt p sz : Nat} {s : PS} (h : At w0 wr P gb gf gr gt p sz s) (hb : Below wr.heap.size wr w') : At w0 w' P gb gf gr gt p sz s := h.next (.none h.port h.inv hb)

theorem release_y {w : World} {P gb gf gr gt : Nat} {s : PS} (h : PortAt w P gb gf gr gt s) (hi : PInv s) (k : Nat) (hk : k < s.pool) (h4 : s.pl k = 4) :
    Calls Try.prog 16 #[.pointer (some ⟨P, 0, none⟩), .int .i64 k] w fun e w' => e = .returned (.int .i64 0) ∧ ∃ s', Played w w' P gb gf gr gt s s' := by
  have he0 : hE s (k : Int) = 0 := hE_held hk h4
  refine (release_t h hi (k : Int)).mono ?_
  rintro e w' ⟨rfl, ⟨hne, _⟩ | ⟨k', _, _, _, _, hp⟩⟩
  · exact absurd he0 hne
  · exact ⟨by rw [he0], _, hp⟩
/-- a buffer that is held is written into, at a place -/
theorem At.write {w0 wr : World} {P gb gf gr gt p sz : Nat} {s : PS} (h : At w0 wr P gb gf gr gt p sz s) (i b : Nat) (hi : i < s.pool) (hb : s.bb i = some b) (j x : Nat) (hj : j < sz) (hx : x < 256) :
    At w0 (wr.setCell ⟨b, j, none⟩ (.int .u8 (x : Int))) P gb gf gr gt p sz { s with da := updF s.da i ((s.da i).set j x) } ∧ (∃ z : Nat, (s.da i)[j]? = some z ∧ wr.cell? ⟨b, j, none⟩ = some (.int .u8 (z : Int))) ∧ wr.frozen? ⟨b, j, none⟩ = false := by
  have hr := h.port.row i b hi hb
  have hdl := h.port.dl i hi
  have hsz := h.size
  obtain ⟨hst, hgr⟩ := hr.stored j (.int .u8 (x : Int))
  have e : ((toI (s.da i)).map (Value.int .u8)).set j (.int .u8 (x : Int)) = (toI ((s.da i).set j x)).map (Value.int .u8) := by simp [toI, List.map_set]
  rw [e] at hst
  have kk : Ch (fun q => q = b) wr (wr.setCell ⟨b, j, none⟩ (.int .u8 (x : Int))) := (Ch.refl _ wr).set _ _ rfl
  have hp := h.port.setDa i b hi hb kk ((s.da i).set j x) (by rw [List.length_set]; exact hdl) (fun y hy => by
    rcases List.mem_or_eq_of_mem_set hy with h1 | h1
    · exact h.port.d256 i hi y h1
    · omega) hst
  refine ⟨⟨hp, das h.inv _, h.pool, h.size, h.bel.trans (kk.below (fun q e => by rw [e]; exact h.blk b (.inr (.inr (.inr (.inr (.inr ⟨i, hi, hb⟩)))))) h.bel.size), h.blk⟩, ?_, hr.frozenAt j⟩
  have hjl : j < (s.da i).length := by omega
  refine ⟨(s.da i)[j], by simp [hjl], ?_⟩
  rw [hr.cellAt j (by omega)]
  simp [toI, hjl]

set_option maxRecDepth 100000 in
/-- a field of a struct that a call answered, as one step of a walk -/
theorem wpList_field0 {ops : Array Oper} {rest : List Oper} {o : Oper} {a : Act} {w : World} {Q : Exit → Act → World → Prop} (x : Operand) (ho : o.op = .field 52 x 0) (v0 v1 v2 v3 v4 : Int) (hx : a.eval x = .agg #[.int .i64 v0, .int .i64 v1, .int .i64 v2, .int .i64 v3, .int .i64 v4])
    (hw : Region.wanted o (yielded ops a.tmps) = true) (h : wpList Try.prog ops Q rest (a.put o.dst (.int .i64 v0)) w) : wpList Try.prog ops Q (o :: rest) a w := by
  refine wpList_step fun K hK => ?_
  rw [if_pos hw]
  have hrun : (execOp a.eval o).run Try.prog w = .ok (.value (.int .i64 v0)) w := by
    obtain ⟨dst, op, type, pos, after, guard⟩ := o
    simp only at ho
    subst ho
    simp only [execOp, Sem.run_bind, Sem.run_pure, hx]
    go_simp
    rfl
  unfold Oper.wp
  rw [hrun]
  exact hK _ _ h
theorem updF_twice {α : Type} (f : Nat → α) (i : Nat) (x y : α) : updF (updF f i x) i y = updF f i y := by
  funext j; unfold updF; split <;> rfl
def wiped (s : PS) (c i j : Nat) : PS := { s with da := updF s.da i (fullC c s.size j) }
theorem wiped_next (s : PS) (c i j : Nat) (h : j < s.size) : ({ wiped s c i j with da := updF (wiped s c i j).da i (((wiped s c i j).da i).set j c) } : PS) = wiped s c i (j + 1) := by
  have e : (wiped s c i j).da i = fullC c s.size j := updF_same _ _ _
  rw [e, fullC_set c s.size j h]
  simp only [wiped, updF_twice]
theorem wiped_zero (s : PS) (c i : Nat) (h : s.da i = List.replicate s.size 0) : wiped s c i 0 = s := by
  unfold wiped
  have e : fullC c s.size 0 = s.da i := by rw [h]; simp [fullC]
  rw [e, updF_id]

set_option maxRecDepth 100000 in
set_option maxHeartbeats 3200000 in
theorem walk (rx tx pool size : Int) (a : Option Addr) (len cap : Nat) (ops : List OpV) (cc : Int) (w : World) (_h0 : (Lit.int .i64 rx).wf = true) (_h1 : (Lit.int .i64 tx).wf = true) (_h2 : (Lit.int .i64 pool).wf = true) (_h3 : (Lit.int .i64 size).wf = true) (hl : ops.length = len) (ho : Ops w a ops) (hn : len ≤ 9223372036854775807) (hcw : (Lit.int .u8 cc).wf = true) :
    Calls Try.prog 5 #[.int .i64 rx, .int .i64 tx, .int .i64 pool, .int .i64 size, .slice a len cap, .int .u8 cc] w fun e w' => e = .returned (.bool true) ∧ Below w.heap.size w w' := by
  obtain ⟨c, rfl, hc⟩ : ∃ c : Nat, cc = (c : Int) ∧ c < 256 := by
    simp [Lit.wf, IntKind.min, IntKind.max, IntKind.bits, IntKind.signed] at hcw
    exact ⟨cc.toNat, by omega, by omega⟩
  clear _h0 _h1 _h2 _h3 hcw
  have HOP : Hid _ := ho
  clear ho
  go_enter Try.func5, Try.ntmps5
  go_wp2_with fail
  refine (port_any w rx tx pool size).mono ?_
  rintro e w1 ⟨r, t, p, sz, P, gb, gf, gr, gt, hs, rfl, hp, hb, hq⟩
  have A0 : At w w1 P gb gf gr gt p sz (newK r t p sz p) := ⟨hp, newK_inv r t p sz, rfl, rfl, hb, hq⟩
  have hp5 := hs.h5
  have hp6 := hs.h6
  have hs7 := hs.h7
  have hs8 := hs.h8
  have hne : (newK r t p sz p).fr ≠ [] := by simp [newK]; omega
  have Q1 : Hid _ := take_t A0.port A0.inv
  clear hp hb hq hs
  go_wp2_with fail
  refine Calls.mono Q1.out ?_
  rintro e w2 (⟨h0, _⟩ | ⟨i, b, rest, hx, hi, rfl, hbb, hpl⟩)
  · exact absurd h0 hne
  have A1 := A0.next hpl
  have h4 : ((newK r t p sz p).taken i b rest).pl i = 4 := updF_same _ _ _
  have Q3 : Hid _ := release_y A1.port A1.inv i hi h4
  have hsz' : (newK r t p sz p).size = sz := rfl
  rw [hsz']
  clear Q1 A0 hne hpl hx hbb hsz'
  go_wp2_with (first | (go_at_call 11; refine (num_any _ _).mono ?_; rintro e w9 ⟨rfl, rfl⟩))
  refine Calls.mono Q3.out ?_
  rintro e w3 ⟨rfl, s3, hp3⟩
  have A2 := A1.next hp3
  clear Q3 hp3 A1 h4 hi
  go_wp2_with (first | (go_at_call 11; refine (num_any _ _).mono ?_; rintro e w9 ⟨rfl, rfl⟩))
  go_loopw [20] (fun ix wr => ∃ (k : Nat) (s : PS), k ≤ len ∧ ix = .int .i64 k ∧ At w wr P gb gf gr gt p sz s) (fun ix _ => len - (intOf ix).toNat)
  case atStart => exact ⟨0, s3, Nat.zero_le _, rfl, A2⟩
  case round =>
    obtain ⟨k, s, hk, rfl, hA⟩ := hrel
    clear A2
    by_cases hlt : k < len
    case neg =>
      obtain rfl : k = len := by omega
      have hbel := hA.bel
      clear hA
      go_wp2
      go_ret
      exact ⟨rfl, hbel⟩
    obtain ⟨o, hok⟩ : ∃ o, ops[k]? = some o := ⟨ops[k]'(by omega), by simp [hl, hlt]⟩
    obtain ⟨hov, ob, off, rfl, hobl, hcs⟩ := ListG.at HOP.out k o hok
    have e0 : wr.cell? ⟨ob, off + k * 5, none⟩ = some (.int .i64 o.kd) := (hA.bel.cell (p := ⟨ob, off + k * 5, none⟩) hobl).trans (hcs 0 (by decide))
    have e1 : wr.cell? ⟨ob, off + k * 5 + 1, none⟩ = some (.bool o.two) := (hA.bel.cell (p := ⟨ob, off + k * 5 + 1, none⟩) hobl).trans (hcs 1 (by decide))
    have e2 : wr.cell? ⟨ob, off + k * 5 + 2, none⟩ = some (.int .i64 o.i) := (hA.bel.cell (p := ⟨ob, off + k * 5 + 2, none⟩) hobl).trans (hcs 2 (by decide))
    have e3 : wr.cell? ⟨ob, off + k * 5 + 3, none⟩ = some (.int .i64 o.n) := (hA.bel.cell (p := ⟨ob, off + k * 5 + 3, none⟩) hobl).trans (hcs 3 (by decide))
    have e4 : wr.cell? ⟨ob, off + k * 5 + 4, none⟩ = some (.slice o.a o.fr.length o.c) := (hA.bel.cell (p := ⟨ob, off + k * 5 + 4, none⟩) hobl).trans (hcs 4 (by decide))
    obtain ⟨kd, two, i1, n1, oa, oc, fr⟩ := o
    simp only at e0 e1 e2 e3 e4
    have hbA : Below wr.heap.size wr (wr.alloc (.cells (opCells kd two i1 n1 oa fr.length oc) 33)) := (Below.refl _ _).alloc (Nat.le_refl _) _
    have A3 := hA.below hbA
    have HV : Hid _ := hov
    clear hov hcs hok
    by_cases h4 : kd = 4
    · subst h4
      have Q1 : Hid _ := take_t A3.port A3.inv
      have QS : Hid _ := Stat_any _ P gb gf gr gt s A3.port (fun i hi => (A3.inv.pr i hi).2)
      have cN : (wr.alloc (.cells (opCells 4 two i1 n1 oa fr.length oc) 33)).cell? ⟨wr.heap.size, 3, none⟩ = some (.int .i64 n1) := by rw [World.cell?_alloc_at _ _ _ _ rfl]; rfl
      have hOs : (wr.alloc (.cells (opCells 4 two i1 n1 oa fr.length oc) 33)).heap.size = wr.heap.size + 1 := by simp
      have hOld : ∀ q, PB P gb gf gr gt s q → q < wr.heap.size := fun q hq => by
        obtain ⟨_, _, l1⟩ := hA.port.lf
        obtain ⟨_, _, l2⟩ := hA.port.lr
        obtain ⟨_, _, l3⟩ := hA.port.lt
        rcases hq with rfl | rfl | rfl | rfl | rfl | ⟨j, hj, hjb⟩
        · exact hA.port.Pl
        · exact hA.port.bl
        · exact (l1.row.lt _ rfl).2
        · exact (l2.row.lt _ rfl).2
        · exact (l3.row.lt _ rfl).2
        · exact ((hA.port.row j q hj hjb).lt q rfl).2
      clear hA hbA
      go_wp2_with fail
      clear e0 e1 e2 e3 e4
      refine Calls.mono Q1.out ?_
      rintro e w5 (⟨h0, rfl, rfl⟩ | ⟨i2, b2, rest2, hx2, hi2, rfl, hbb2, hpl2⟩)
      · have hz : cnt s.pl s.pool 1 = 0 := cnt_zero _ _ _ (fun i hi e => by have := (A3.inv.p1 i hi).1 e; rw [h0] at this; cases this)
        have hz' : statV s.pl s.pool = .agg #[.int .i64 0, .int .i64 (cnt s.pl s.pool 2), .int .i64 (cnt s.pl s.pool 3), .int .i64 (cnt s.pl s.pool 4), .int .i64 (cnt s.pl s.pool 5)] := by rw [statV, hz]; rfl
        rw [hz'] at QS
        clear hz hz' h0 Q1
        go_wp2_with (first | (go_at_call 11; refine (num_any _ _).mono ?_; rintro e w9 ⟨rfl, rfl⟩))
        refine Calls.mono QS.out ?_
        rintro e w6 ⟨rfl, hb6⟩
        have A4 := A3.below hb6
        clear QS A3 hb6 cN hOs hOld
        go_wp2_with (first | (refine wpList_field0 (.tmp 84) rfl _ _ _ _ _ rfl rfl ?_))
        go_roundw
        case rel => exact ⟨k + 1, s, by omega, by go_num, A4⟩
        case measure => simp [intOf]; omega
      · have A4 := A3.next hpl2
        have hss := A3.size
        have hbO : b2 ≠ wr.heap.size := by
          rcases hbb2 with h | ⟨_, h⟩
          · have := hOld b2 (.inr (.inr (.inr (.inr (.inr ⟨i2, hi2, h⟩))))); omega
          · rw [hOs] at h; omega
        have cN5 : w5.cell? ⟨wr.heap.size, 3, none⟩ = some (.int .i64 n1) := hpl2.ch.cell cN (fun hq => by have := hOld _ hq; exact absurd this (Nat.lt_irrefl _))
        obtain ⟨O, hO⟩ : ∃ O, O = wr.heap.size := ⟨_, rfl⟩
        rw [← hO] at hbO cN5 ⊢
        have hi3 : i2 < (s.taken i2 b2 rest2).pool := hi2
        have hbb3 : (s.taken i2 b2 rest2).bb i2 = some b2 := updF_same _ _ _
        have h43 : (s.taken i2 b2 rest2).pl i2 = 4 := updF_same _ _ _
        have hda3 : (s.taken i2 b2 rest2).da i2 = List.replicate s.size 0 := updF_same _ _ _
        have hsz3 : (s.taken i2 b2 rest2).size = sz := hss
        obtain ⟨s4, hs4⟩ : ∃ s4, s4 = s.taken i2 b2 rest2 := ⟨_, rfl⟩
        have A5 : At w w5 P gb gf gr gt p sz (wiped s4 c i2 0) := by
          rw [wiped_zero _ _ _ (by rw [hs4]; exact hda3), hs4]; exact A4
        rw [← hs4] at hi3 hbb3 h43 hsz3
        rw [hss]
        clear hs4 A4 hda3 hpl2 hbb2 hx2 hi2 Q1 QS A3 cN hOs hOld hO hss
        go_wp2_with (first | (go_at_call 11; refine (num_any _ _).mono ?_; rintro e w9 ⟨rfl, rfl⟩))
        go_loopw [22] (fun ix wq => ∃ j : Nat, j ≤ sz ∧ ix = .int .i64 j ∧ At w wq P gb gf gr gt p sz (wiped s4 c i2 j) ∧ wq.cell? ⟨O, 3, none⟩ = some (.int .i64 n1)) (fun ix _ => sz - (intOf ix).toNat)
        case atStart => exact ⟨0, Nat.zero_le _, rfl, A5, cN5⟩
        case round =>
          obtain ⟨j, hj, rfl, hAq, hcN⟩ := hrel
          clear A5 cN5
          by_cases hjl : j < sz
          · obtain ⟨A6, ⟨z, hz, hcz⟩, hfz⟩ := hAq.write i2 b2 hi3 hbb3 j c hjl hc
            rw [wiped_next s4 c i2 j (by omega)] at A6
            have hz0 : z = 0 := by
              have e : (wiped s4 c i2 j).da i2 = fullC c s4.size j := updF_same _ _ _
              rw [e, fullC_at c s4.size j (by omega)] at hz
              simpa using hz.symm
            subst hz0
            have cN6 : (wr.setCell ⟨b2, j, none⟩ (.int .u8 (c : Int))).cell? ⟨O, 3, none⟩ = some (.int .i64 n1) := by
              rw [World.cell?_setCell_other _ _ _ _ (by simp only [ne_eq, Addr.mk.injEq, and_true]; exact fun e => hbO e.1)]
              exact hcN
            have HF : Hid (At w (wr.setCell ⟨b2, j, none⟩ (.int .u8 (c : Int))) P gb gf gr gt p sz (wiped s4 c i2 (j + 1)) ∧ (wr.setCell ⟨b2, j, none⟩ (.int .u8 (c : Int))).cell? ⟨O, 3, none⟩ = some (.int .i64 n1)) := ⟨A6, cN6⟩
            clear A6 cN6 hz hAq hcN
            go_wp2
            go_roundw
            case rel =>
              obtain ⟨f1, f2⟩ := HF.out
              exact ⟨j + 1, by omega, by go_num, f1, f2⟩
            case measure => simp [intOf]; omega
          · obtain rfl : j = sz := by omega
            have Q4 : Hid _ := release_y hAq.port hAq.inv i2 hi3 h43
            go_wp2_with fail
            · refine Calls.mono Q4.out ?_
              rintro e w7 ⟨rfl, s7, hp7⟩
              have A7 := hAq.next hp7
              clear Q4 hp7 hAq hcN
              go_wp2_with (first | (go_at_call 11; refine (num_any _ _).mono ?_; rintro e w9 ⟨rfl, rfl⟩))
              go_roundw
              case rel => exact ⟨k + 1, s7, by omega, by go_num, A7⟩
              case measure => simp [intOf]; omega
            · exact ⟨⟨k + 1, _, by omega, by go_num, hAq⟩, by simp [intOf]; omega⟩
    · have hne : (kd != 4) = true := by simpa using h4
      have hlt1 : ∀ x, fr ≠ [] → oa = some x → x.block ≠ P ∧ x.block ≠ gb := fun x hx e => by
        have h1 := HV.out.seg.lt
        rcases h1 with h1 | ⟨b', o', e', hb'⟩
        · rw [toI_len] at h1; exact absurd (List.eq_nil_of_length_eq_zero h1) hx
        · simp only at e'
          rw [e] at e'
          simp only [Option.some.injEq] at e'
          subst e'
          have u1 := hA.blk P (.inl rfl)
          have u2 := hA.blk gb (.inr (.inl rfl))
          exact ⟨by show b' ≠ _; omega, by show b' ≠ _; omega⟩
      have hseg : Seg .u8 (wr.alloc (.cells (opCells kd two i1 n1 oa fr.length oc) 33)) oa (toI fr) := HV.out.seg.below (B := w.heap.size) HV.out.seg.lt A3.bel
      have Q1 : Hid _ := do_any _ P gb gf gr gt s A3.port A3.inv kd two i1 n1 oa oc fr hseg HV.out.h256 hlt1
      clear hseg hlt1 h4 hA hbA
      go_wp2_with fail
      refine Calls.mono Q1.out ?_
      rintro e w5 ⟨s5, r5, rfl, hp5', _⟩
      have A4 := A3.next hp5'
      clear Q1 hp5' A3 e0 e1 e2 e3 e4
      go_wp2
      go_roundw
      case rel => exact ⟨k + 1, s5, by omega, by go_num, A4⟩
      case measure => simp [intOf]; omega
end Go.Proofs.Ytaicmpkgcppplaa.ringClean
