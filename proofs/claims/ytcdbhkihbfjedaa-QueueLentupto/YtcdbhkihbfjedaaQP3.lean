/-
  Layer 18: made: a queue of classes, beside the document's own.
-/
import Derived.Test.YtcdbhkihbfjedaaQP2
import Derived.Laws.StructEq
namespace Go.Proofs.Ytcdbhkihbfjedaa
open Go.RowKit Go.ChangeShapes Go.WideShapes

theorem Try.limFields : Try.prog.underlying 36 = some (.struct (Try.prog.fieldsOf 36)) := by kernel_rfl
theorem Try.limStood : Try.prog.stoodInHeld 36 = false := by kernel_rfl
theorem Try.limGuard : Try.prog.eqGuardType Try.prog.depth 36 = false := by kernel_rfl
theorem lim_part0 (e : LI) (w : World) : (part 3 (liA e) 0).run Try.prog w = .ok (.int .i64 e.q) w := by kernel_rfl
theorem lim_part1 (e : LI) (w : World) : (part 3 (liA e) 1).run Try.prog w = .ok (.int .i64 e.it) w := by kernel_rfl
theorem lim_part2 (e : LI) (w : World) : (part 3 (liA e) 2).run Try.prog w = .ok (.int .i64 e.by') w := by kernel_rfl
theorem lim_part3 (e : LI) (w : World) : (part 3 (liA e) 3).run Try.prog w = .ok (.int .i64 e.ra) w := by kernel_rfl
theorem lim_part4 (e : LI) (w : World) : (part 3 (liA e) 4).run Try.prog w = .ok (.int .i64 e.bu) w := by kernel_rfl
set_option maxHeartbeats 1600000 in
set_option maxRecDepth 100000 in
theorem eq_lim (e : LI) (w : World) : (Op.equalIn 10000 36 (.agg (liA e)) (.agg (liA e))).run Try.prog w = .ok true w := by
  rw [show (10000 : Nat) = 9999 + 1 from rfl, run_equalIn_struct w 9999 36 _ _ Try.limFields Try.limStood]
  rw [show (Try.prog.fieldsOf 36).toList = [{ name := "Quantum", type := 3, offset := 0, embedded := false, tag := "", pkgPath := "", byteOffset := 0 }, { name := "Items", type := 3, offset := 1, embedded := false, tag := "", pkgPath := "", byteOffset := 8 }, { name := "Bytes", type := 3, offset := 2, embedded := false, tag := "", pkgPath := "", byteOffset := 16 }, { name := "Rate", type := 3, offset := 3, embedded := false, tag := "", pkgPath := "", byteOffset := 24 }, { name := "Burst", type := 3, offset := 4, embedded := false, tag := "", pkgPath := "", byteOffset := 32 }] from by kernel_rfl]
  have ii : ∀ k : Int, (Op.equalIn 9999 3 (.int .i64 k) (.int .i64 k)).run Try.prog w = .ok true w := fun k => by
    rw [show (9999 : Nat) = 9998 + 1 from rfl, run_equalIn_int w 9998 3 .i64 .i64 k k Try.underlying3, beq_self_eq_true]
  simp [Op.eqFields, Sem.run_bind, Sem.run_ite, lim_part0, lim_part1, lim_part2, lim_part3, lim_part4, ii]
theorem yields_eql_lim {ops : Array Oper} {o : Oper} {a : Act} {S : World → Prop} (X Y : Operand) (ho : o.op = .binOp .eql 36 X Y 36) (e : LI) (hx : a.eval X = .agg (liA e)) (hy : a.eval Y = .agg (liA e)) (hw : Region.wanted o (yielded ops a.tmps) = true) : YieldsIf Try.prog ops S o (.bool true) a := by
  refine .inl ⟨hw, fun w _ => ?_⟩
  obtain ⟨dst, op, type, pos, after, guard⟩ := o
  simp only at ho
  subst ho
  simp only [execOp, Sem.run_bind, Sem.run_pure, hx, hy, run_eqGuard_agg w .eql 36 _ _ _ _ Try.limGuard, Result.andThen_ok, run_eql_struct, eq_lim]
def lm1 : LI := ⟨-1, 0, 0, 0, 0⟩
theorem run_bm1  (w : World) : (Instr.build 36 #[(0, .int .i64 (-1))]).run Try.prog w = .ok (.agg (liA lm1)) w := by kernel_rfl
theorem wpList_bm1 {ops : Array Oper} {rest : List Oper} {o : Oper} {a_ : Act} {w : World} {Q : Exit → Act → World → Prop} (y0 : Operand) (ho : o.op = .build 36 #[(0, y0)])  (h0 : a_.eval y0 = .int .i64 (-1)) (hw : Region.wanted o (yielded ops a_.tmps) = true)
    (h : wpList Try.prog ops Q rest (a_.put o.dst (.agg (liA lm1))) w) : wpList Try.prog ops Q (o :: rest) a_ w := by
  refine wpList_step fun K hK => ?_
  rw [if_pos hw]
  have hrun : (execOp a_.eval o).run Try.prog w = .ok (.value (.agg (liA lm1))) w := by
    obtain ⟨dst, op, type, pos, after, guard⟩ := o
    simp only at ho
    subst ho
    simp only [execOp, Sem.run_bind, List.map_toArray, List.map_cons, List.map_nil, h0, run_bm1  w, Result.andThen_ok]
    rfl
  unfold Oper.wp
  rw [hrun]
  exact hK _ _ h
theorem run_bsd (p : Option Addr) (v : RQ) (w : World) : (Instr.build 69 #[(0, .pointer p), (1, .agg (rqA v))]).run Try.prog w = .ok (.agg (sdA ⟨p, v⟩)) w := by kernel_rfl
theorem wpList_bsd {ops : Array Oper} {rest : List Oper} {o : Oper} {a_ : Act} {w : World} {Q : Exit → Act → World → Prop} (y0 y1 : Operand) (ho : o.op = .build 69 #[(0, y0), (1, y1)]) (p : Option Addr) (v : RQ) (h0 : a_.eval y0 = .pointer p) (h1 : a_.eval y1 = .agg (rqA v)) (hw : Region.wanted o (yielded ops a_.tmps) = true)
    (h : wpList Try.prog ops Q rest (a_.put o.dst (.agg (sdA ⟨p, v⟩))) w) : wpList Try.prog ops Q (o :: rest) a_ w := by
  refine wpList_step fun K hK => ?_
  rw [if_pos hw]
  have hrun : (execOp a_.eval o).run Try.prog w = .ok (.value (.agg (sdA ⟨p, v⟩))) w := by
    obtain ⟨dst, op, type, pos, after, guard⟩ := o
    simp only at ho
    subst ho
    simp only [execOp, Sem.run_bind, List.map_toArray, List.map_cons, List.map_nil, h0, h1, run_bsd p v w, Result.andThen_ok]
    rfl
  unfold Oper.wp
  rw [hrun]
  exact hK _ _ h
theorem yields_bsd {ops : Array Oper} {o : Oper} {a : Act} {S : World → Prop} (y0 y1 : Operand) (ho : o.op = .build 69 #[(0, y0), (1, y1)]) (p : Option Addr) (v : RQ) (h0 : a.eval y0 = .pointer p) (h1 : a.eval y1 = .agg (rqA v)) (hw : Region.wanted o (yielded ops a.tmps) = true) : YieldsIf Try.prog ops S o (.agg (sdA ⟨p, v⟩)) a := by
  refine .inl ⟨hw, fun w _ => ?_⟩
  obtain ⟨dst, op, type, pos, after, guard⟩ := o
  simp only at ho
  subst ho
  simp only [execOp, Sem.run_bind, List.map_toArray, List.map_cons, List.map_nil, h0, h1, run_bsd p v w, Result.andThen_ok]
  rfl
theorem csR_rmk (ls : List LI) : csR (ls.map rmk) = c0s ls := by unfold csR c0s; rw [List.map_map]; rfl
def MN (lo : Nat) (w : World) (ls : List LI) (q : Option Addr) (en : Int) : Prop :=
  (nwB ls = true ∧ en = 0 ∧ ∃ P G, q = some ⟨P, 0, none⟩ ∧ QQ w P G (ls.map mk) tz ∧ lo ≤ P ∧ lo ≤ G) ∨ (nwB ls = false ∧ en = 180 ∧ q = none)
def MR (w : World) (ls : List LI) (v : RQ) : Prop := nwB ls = true → AL w v (c0s ls) tz (ls.map rmk)
theorem MN.below {lo : Nat} {w w' : World} {ls : List LI} {q : Option Addr} {en : Int} (h : MN lo w ls q en) (b : Below w.heap.size w w') : MN lo w' ls q en := by
  rcases h with ⟨h1, h2, P, G, h3, h4, h5⟩ | h
  · exact .inl ⟨h1, h2, P, G, h3, h4.below b, h5⟩
  · exact .inr h
theorem QQ.ks {w w' : World} {P G : Nat} {ms : List CM} {t : TN} {B : Nat} {cc : Array Value} {ty : TypeId} (h : QQ w P G ms t) (k : Ch (fun q => q = B) w w') (hb : w.heap[B]? = some (.cells cc ty (0, 0))) (h1 : ty ≠ 104) (h2 : ty ≠ 98) (h3 : ty ≠ 119) : QQ w' P G ms t :=
  h.ch k (fun q hq hs => by subst hs; exact h.qa.apart hb h1 h2 h3 hq)
theorem MN.ks {lo : Nat} {w w' : World} {ls : List LI} {q : Option Addr} {en : Int} {B : Nat} {cc : Array Value} {ty : TypeId} (h : MN lo w ls q en) (k : Ch (fun q => q = B) w w') (hb : w.heap[B]? = some (.cells cc ty (0, 0))) (h1 : ty ≠ 104) (h2 : ty ≠ 98) (h3 : ty ≠ 119) : MN lo w' ls q en := by
  rcases h with ⟨g1, g2, P, G, g3, g4, g5⟩ | h
  · exact .inl ⟨g1, g2, P, G, g3, g4.ks k hb h1 h2 h3, g5⟩
  · exact .inr h
theorem MR.below {w w' : World} {ls : List LI} {v : RQ} (h : MR w ls v) (b : Below w.heap.size w w') : MR w' ls v := fun e => (h e).below b
theorem MR.ks {w w' : World} {ls : List LI} {v : RQ} {B : Nat} {cc : Array Value} {e : TypeId} (h : MR w ls v) (k : Ch (fun q => q = B) w w') (hb : w.heap[B]? = some (.cells cc e (0, 0))) (h1 : 110 ≠ e) (h2 : 124 ≠ e) : MR w' ls v := fun he => (h he).ks k hb h1 h2
theorem newM (a : Option Addr) (n cap : Nat) (ls : List LI) (ok : LI → Prop) (w : World) (hl : ls.length = n) (hL : ListG 5 liL ok w a ls) (hn : n ≤ 2000000) : Calls Try.prog 36 #[.slice a n cap] w fun e w' => ∃ q en, e = .returned (.tuple #[.pointer q, .int .i64 en]) ∧ MN w.heap.size w' ls q en ∧ Below w.heap.size w w' := by
  refine (new_any a n cap ls ok w hl hL hn).mono ?_
  rintro e w' (⟨h1, P, G, rfl, h2, h3, h4, h5⟩ | ⟨h1, rfl, h3⟩)
  · exact ⟨_, _, rfl, .inl ⟨h1, rfl, P, G, rfl, h2, h4, h5⟩, h3⟩
  · exact ⟨_, _, rfl, .inr ⟨h1, rfl, rfl⟩, h3⟩
theorem newRM (lo : Nat) (w0 : World) (q : Option Addr) (en : Int) (a : Option Addr) (n cap : Nat) (ls : List LI) (ok : LI → Prop) (w : World) (hl : ls.length = n) (hL : ListG 5 liL ok w a ls) (hM : MN lo w0 ls q en) : Calls Try.prog 39 #[.slice a n cap] w fun e w' => ∃ v, e = .returned (.tuple #[.agg (rqA v), .int .i64 en]) ∧ MR w' ls v ∧ Below w.heap.size w w' := by
  refine (newR_any a n cap ls ok w hl hL).mono ?_
  rintro e w' (⟨h1, v, rfl, h2, h3, h4⟩ | ⟨h1, rfl, h3⟩)
  · rcases hM with ⟨_, rfl, _⟩ | ⟨h, _⟩
    · exact ⟨v, rfl, fun _ => ⟨h2, csR_rmk ls, h3⟩, h4⟩
    · rw [h1] at h; cases h
  · rcases hM with ⟨h, _⟩ | ⟨_, rfl, _⟩
    · rw [h1] at h; cases h
    · exact ⟨qz, rfl, (fun h => by rw [h1] at h; cases h), h3⟩
set_option maxHeartbeats 6400000 in
set_option maxRecDepth 100000 in
theorem made_any (a : Option Addr) (n cap : Nat) (ls : List LI) (w : World) (hl : ls.length = n) (hL : ListG 5 liL LiW w a ls) (hn : n ≤ 2000000) : Calls Try.prog 34 #[.slice a n cap] w fun e w' => ∃ P G u, e = .returned (.tuple #[.agg (sdA ⟨some ⟨P, 0, none⟩, u⟩), .bool true]) ∧ QQ w' P G ((qls ls).map mk) tz ∧ AL w' u (c0s (qls ls)) tz ((qls ls).map rmk) ∧ Below w.heap.size w w' ∧ w.heap.size ≤ P ∧ w.heap.size ≤ G := by
  have HL : Hid (ls.length = n ∧ ListG 5 liL LiW w a ls ∧ n ≤ 2000000) := ⟨hl, hL, hn⟩
  have hn' : n ≤ 2000000 := hn
  clear hl hL hn
  go_enter Try.func34, Try.ntmps34
  go_upto_region 2 with (first | (refine wpList_nil_sdv rfl rfl ?_; intro B2 W2 hB2 hA2 b2))
  have HO : Hid (w.heap.size = B2 ∧ W2.heap.size = B2 + 1) := hB2.out
  obtain ⟨bs, hbs⟩ : ∃ bs, W2.heap.size = bs := ⟨_, rfl⟩
  have H2 : Hid (SdvAt W2 B2 sz0 ∧ Below w.heap.size w W2 ∧ ListG 5 liL LiW W2 a ls ∧ bs = B2 + 1 ∧ bs ≤ W2.heap.size) := ⟨hA2, b2, HL.out.2.1.old b2, by have h1 := HO.out.2; omega, by omega⟩
  clear hB2 hA2 b2 hbs
  go_upto_region 3 with (first | (refine wpList_appG liL_len liL_one (by decide) rfl (.tmp 11) (.tmp 12) 22 36 rfl Try.underlying22 info_li bs (.slice none 0 0) [] rfl GL.nil LiW a n cap ls rfl HL.out.1 H2.out.2.2.1 (by simp) (by have h1 := HL.out; omega) H2.out.2.2.2.2 ?_; intro v4 w4 gl4 g4 _))
  rw [List.nil_append] at gl4
  obtain ⟨va, vc, hv4, lg4⟩ := gl4.listG (ok := fun _ => True) liL_len (fun _ _ => trivial)
  rw [HL.out.1] at hv4
  subst hv4
  have H4 : Hid (GL 5 liL 36 w4 bs (.slice va n vc) ls ∧ ListG 5 liL (fun _ => True) w4 va ls ∧ Below w.heap.size w w4 ∧ SdvAt w4 B2 sz0) := by
    have b4 : Below W2.heap.size W2 w4 := ⟨g4.os, g4.tape, g4.output, g4.size, fun k hk => g4.block k hk (by simp [Value.ownBlock])⟩
    exact ⟨gl4, lg4, bthen H2.out.2.1 b4, H2.out.1.below b4⟩
  clear gl4 lg4 g4
  have QN : Hid _ := newM va n vc ls (fun _ => True) w4 HL.out.1 H4.out.2.1 HL.out.2.2
  go_wp2_with fail
  refine Calls.mono QN.out ?_
  rintro e5 w5 ⟨q, en, rfl, m5, b5⟩
  have H5 : Hid (GL 5 liL 36 w5 bs (.slice va n vc) ls ∧ MN w.heap.size w5 ls q en ∧ Below w.heap.size w w5 ∧ SdvAt w5 B2 sz0) := by
    have hs := H4.out.2.2.1.size
    exact ⟨H4.out.1.below b5, m5.imp (fun ⟨g1, g2, P, G, g3, g4, g5, g6⟩ => ⟨g1, g2, P, G, g3, g4, by omega, by omega⟩) id, bthen H4.out.2.2.1 b5, H4.out.2.2.2.below b5⟩
  clear m5 b5 QN
  have QR : Hid _ := newRM _ w5 q en a n cap ls LiW w5 HL.out.1 (HL.out.2.1.old H5.out.2.2.1) H5.out.2.1
  go_wp2_with fail
  refine Calls.mono QR.out ?_
  rintro e6 w6 ⟨v, rfl, m6, b6⟩
  have H6 : Hid (GL 5 liL 36 w6 bs (.slice va n vc) ls ∧ MN w.heap.size w6 ls q en ∧ MR w6 ls v ∧ Below w.heap.size w w6 ∧ SdvAt w6 B2 sz0) := ⟨H5.out.1.below b6, H5.out.2.1.below b6, m6, bthen H5.out.2.2.1 b6, H5.out.2.2.2.below b6⟩
  clear m6 b6 QR
  go_upto_region 5 with (first | (refine wpList_nil_rqv rfl rfl ?_; intro B7 X hB7 hX bX) | (refine wpList_store_rqv (.tmp 7) (.tmp 22) rfl rfl B7 qz v rfl rfl hX rfl ?_; intro w7 h7 k7))
  have HB7 : Hid (w6.heap.size = B7) := hB7.out.1
  have H7 : Hid (GL 5 liL 36 w7 bs (.slice va n vc) ls ∧ RqvAt w7 B7 v ∧ SdvAt w7 B2 sz0 ∧ MN w.heap.size w7 ls q en ∧ MR w7 ls v ∧ Below w.heap.size w w7 ∧ B7 < w7.heap.size) := by
    have h1 := HB7.out
    have h2 := H6.out.2.2.2.1.size
    have h4 := (Array.getElem?_eq_some_iff.1 H6.out.2.2.2.2).1
    have bb := bthen H6.out.2.2.2.1 bX
    refine ⟨(H6.out.1.below bX).ch k7 (fun g hg e => ?_), h7, (H6.out.2.2.2.2.below bX).ch k7 (by omega), (H6.out.2.1.below bX).ks k7 hX (by decide) (by decide) (by decide), (H6.out.2.2.1.below bX).ks k7 hX (by decide) (by decide), bb.trans (k7.below (fun x hx => by omega) bb.size), (Array.getElem?_eq_some_iff.1 h7).1⟩
    have := (H6.out.1.kind g hg).2.1
    omega
  have HBB : Hid (B2 < B7) := by
    have h1 := HB7.out
    have h4 := (Array.getElem?_eq_some_iff.1 H6.out.2.2.2.2).1
    show _ < _
    omega
  have HBS : Hid (B2 < bs) := by have h1 := H2.out.2.2.2.1; show _ < _; omega
  clear hB7 hX bX h7 k7 H6 H5 H4 H2 HB7
  go_wp2_with fail
  go_loopw [9, 10] (fun sv iv wr => ∃ (k : Nat) (L : List LI), k ≤ n ∧ sv = .bool true ∧ iv = .int .i64 (k : Nat) ∧ Hid ((GL 5 liL 36 wr bs (.slice va n vc) L ∧ RqvAt wr B7 v ∧ SdvAt wr B2 sz0 ∧ MN w.heap.size wr ls q en ∧ MR wr ls v ∧ Below w.heap.size w wr ∧ B7 < wr.heap.size) ∧ ∀ j, k ≤ j → L[j]? = ls[j]?)) (fun _ iv _ => n - (intOf iv).toNat)
  case atStart => exact ⟨0, ls, Nat.zero_le _, rfl, rfl, H7.out, fun _ _ => rfl⟩
  case round =>
    obtain ⟨k, L, hk, rfl, rfl, HI⟩ := hrel
    by_cases hkn : k < n
    · have p1 : decide ((k : Int) < (n : Int)) = true := decide_eq_true (by omega)
      have p2 : decide (k < n) = true := decide_eq_true hkn
      have k0 : (0 : Int) ≤ (k : Int) := by omega
      have k1 : (k : Int) < (n : Int) := by omega
      have k2 : ((k : Int)).toNat = k := by omega
      have wk : IntKind.i64.wrap ((k : Int) + 1) = (k : Int) + 1 := i64_s _ (by omega) (by omega)
      obtain ⟨l, hl⟩ : ∃ l, ls[k]? = some l := ⟨_, List.getElem?_eq_getElem (by rw [HL.out.1]; exact hkn)⟩
      obtain ⟨ab, off, ha, hra⟩ := (HL.out.2.1.old HI.out.1.2.2.2.2.2.1).rng liL_len k l hl
      obtain ⟨g, cap', hv, hbg, hgl, hrg⟩ := HI.out.1.1.at liL_len k l ((HI.out.2 k (Nat.le_refl _)).trans hl)
      simp only [Value.slice.injEq] at hv
      obtain ⟨rfl, hLn, rfl⟩ := hv
      subst ha
      have HLK : Hid (ls[k]? = some l ∧ k < n ∧ bs ≤ g ∧ L.length = n) := ⟨hl, hkn, hbg, hLn.symm⟩
      have HRR : Hid (wr.rangeAt g (k * 5) (liA l).toList ∧ wr.rangeAt ab (off + k * 5) (liA l).toList) := ⟨hrg, hra⟩
      clear hl hra hrg hk hkn hbg hgl hLn
      go_upto_region 9 with fail
      refine MixH.start (fun A => A.rangeAt g (k * 5) (liA l).toList ∧ A.rangeAt ab (off + k * 5) (liA l).toList) (by kernel_rfl) ?_
      obtain ⟨wA, hwA⟩ : ∃ W_, W_ = wr.drew := ⟨_, rfl⟩
      have bdr : Below wr.heap.size wr wA := by rw [hwA]; exact (Below.refl _ _).drew
      have hS : wA.rangeAt g (k * 5) (liA l).toList ∧ wA.rangeAt ab (off + k * 5) (liA l).toList := ⟨fun j u hj => (World.cell?_of_block (bdr.block _ (World.block_lt_of_cell? _ _ (HRR.out.1 j u hj)))).trans (HRR.out.1 j u hj), fun j u hj => (World.cell?_of_block (bdr.block _ (World.block_lt_of_cell? _ _ (HRR.out.2 j u hj)))).trans (HRR.out.2 j u hj)⟩
      have HA : Hid ((GL 5 liL 36 wA bs (.slice (some ⟨g, 0, none⟩) n vc) L ∧ RqvAt wA B7 v ∧ SdvAt wA B2 sz0 ∧ MN w.heap.size wA ls q en ∧ MR wA ls v ∧ Below w.heap.size w wA ∧ B7 < wA.heap.size)) := ⟨HI.out.1.1.below bdr, HI.out.1.2.1.below bdr, HI.out.1.2.2.1.below bdr, HI.out.1.2.2.2.1.below bdr, HI.out.1.2.2.2.2.1.below bdr, bthen HI.out.1.2.2.2.2.2.1 bdr, Nat.lt_of_lt_of_le HI.out.1.2.2.2.2.2.2 bdr.size⟩
      rw [← hwA]
      clear hwA bdr
      refine MixH.takes [true, true, true, true, true, false, true, true, true] 5 (by kernel_rfl) (by kernel_rfl) (by decide) (by kernel_rfl) hS (fun K hK => ?_)
      simp only [Mix.pick]
      repeat (go_big_quiet_step (fail))
      refine wpQuiet_nil (hK _ ?_)
      clear hK K
      refine MixH.take 4 5 _ (.agg (liA l)) rfl (by kernel_rfl) (by kernel_rfl) (by kernel_rfl) (by kernel_rfl) (yields_lim (.tmp 34) rfl g (k * 5) l rfl rfl (fun A hA => hA.1)) hS (fun a' ha => ?_)
      simp only [Act.put, List.setIfInBounds_toArray, List.set_cons_succ, List.set_cons_zero] at ha
      subst ha
      refine MixH.take 3 9 _ (.agg (liA l)) rfl (by kernel_rfl) (by kernel_rfl) (by kernel_rfl) (by kernel_rfl) (yields_lim (.tmp 38) rfl ab (off + k * 5) l rfl rfl (fun A hA => hA.2)) hS (fun a' ha => ?_)
      simp only [Act.put, List.setIfInBounds_toArray, List.set_cons_succ, List.set_cons_zero] at ha
      subst ha
      refine MixH.take 2 10 _ (.bool true) rfl (by kernel_rfl) (by kernel_rfl) (by kernel_rfl) (by kernel_rfl) (yields_eql_lim (.tmp 35) (.tmp 39) rfl l rfl rfl rfl) hS (fun a' ha => ?_)
      simp only [Act.put, List.setIfInBounds_toArray, List.set_cons_succ, List.set_cons_zero] at ha
      subst ha
      refine MixH.takes [false, false, false, false, false, false, false, false, false, false, false, true, true] 0 (by kernel_rfl) (by kernel_rfl) (by decide) (by kernel_rfl) hS (fun K hK => ?_)
      simp only [Mix.pick]
      repeat (go_big_quiet_step (fail))
      refine wpQuiet_nil (hK _ ?_)
      clear hK K
      refine MixH.done (by kernel_rfl) ?_
      clear hS HRR
      go_wp2_with (first | (refine wpList_bm1 _ rfl rfl rfl ?_) | (refine wpList_setG liL_len liL_one 36 info_li (.tmp 45) (.tmp 44) rfl rfl bs g n vc L k (k * 5) lm1 rfl rfl rfl HA.out.1 HLK.out.2.1 rfl ?_))
      intro w8 gl8 k8
      have H8 : Hid ((GL 5 liL 36 w8 bs (.slice (some ⟨g, 0, none⟩) n vc) (L.set k lm1) ∧ RqvAt w8 B7 v ∧ SdvAt w8 B2 sz0 ∧ MN w.heap.size w8 ls q en ∧ MR w8 ls v ∧ Below w.heap.size w w8 ∧ B7 < w8.heap.size) ∧ ∀ j, k + 1 ≤ j → (L.set k lm1)[j]? = ls[j]?) := by
        have hgk := (HA.out.1.kind g rfl).2.2
        obtain ⟨c, hgc⟩ := hgk
        have hbg := HLK.out.2.2.1
        have hne : ∀ {x : Nat} {cc : Array Value} {ty : TypeId}, wA.heap[x]? = some (.cells cc ty (0, 0)) → ty ≠ 36 → ¬ x = g := fun hx hne e => by
          subst e
          rw [hgc] at hx
          simp only [Option.some.injEq, Obj.cells.injEq] at hx
          exact hne hx.2.1.symm
        refine ⟨⟨gl8, HA.out.2.1.ch k8 (hne HA.out.2.1 (by decide)), HA.out.2.2.1.ch k8 (hne HA.out.2.2.1 (by decide)), HA.out.2.2.2.1.ks k8 hgc (by decide) (by decide) (by decide), HA.out.2.2.2.2.1.ks k8 hgc (by decide) (by decide), HA.out.2.2.2.2.2.1.trans (k8.below (fun q hq => by have h1 := HO.out; have h2 := HBS.out; omega) HA.out.2.2.2.2.2.1.size), Nat.lt_of_lt_of_le HA.out.2.2.2.2.2.2 k8.size⟩, fun j hj => ?_⟩
        rw [List.getElem?_set_ne (by omega)]
        exact HI.out.2 j (by omega)
      clear gl8 k8
      go_wp2_with fail
      go_roundw
      case rel => exact ⟨k + 1, L.set k lm1, by have := HLK.out; omega, rfl, rfl, H8.out⟩
      case measure => simp only [intOf]; have := HLK.out; omega
    · have p1 : decide ((k : Int) < (n : Int)) = false := decide_eq_false (by omega)
      have p2 : decide (k < n) = false := decide_eq_false hkn
      have hM := HI.out.1.2.2.2.1
      have HZ : Hid (RqvAt wr B7 v ∧ SdvAt wr B2 sz0 ∧ MR wr ls v ∧ Below w.heap.size w wr) := ⟨HI.out.1.2.1, HI.out.1.2.2.1, HI.out.1.2.2.2.2.1, HI.out.1.2.2.2.2.2.1⟩
      clear hkn hk HI H7
      rcases hM with ⟨hnb, rfl, P, G, rfl, hq, hP, hG⟩ | ⟨hnb, rfl, rfl⟩
      · have HE : Hid (qls ls = ls) := if_pos hnb
        have HG : Hid (SdvAt wr B2 sz0 ∧ QQ wr P G ((qls ls).map mk) tz ∧ AL wr v (c0s (qls ls)) tz ((qls ls).map rmk) ∧ Below w.heap.size w wr ∧ w.heap.size ≤ P ∧ w.heap.size ≤ G) := by
          rw [HE.out]
          exact ⟨HZ.out.2.1, hq, HZ.out.2.2.1 hnb, HZ.out.2.2.2, hP, hG⟩
        clear hnb hq hP hG HE
        go_wp2_with fail
        refine Calls.mono (num_any 0 wr) ?_
        rintro en wn ⟨rfl, rfl⟩
        go_wp2_with (first | (refine wpList_load_rqv (.tmp 7) rfl B7 v rfl HZ.out.1 rfl ?_) | (refine wpList_bsd (.tmp 64) (.tmp 65) rfl (some ⟨P, 0, none⟩) v rfl rfl rfl ?_) | (refine wpList_store_sdv (.tmp 2) (.tmp 66) rfl rfl B2 sz0 ⟨some ⟨P, 0, none⟩, v⟩ rfl rfl HZ.out.2.1 rfl ?_))
        intro w9 h9 k9
        have HF : Hid (SdvAt w9 B2 ⟨some ⟨P, 0, none⟩, v⟩ ∧ QQ w9 P G ((qls ls).map mk) tz ∧ AL w9 v (c0s (qls ls)) tz ((qls ls).map rmk) ∧ Below w.heap.size w w9 ∧ w.heap.size ≤ P ∧ w.heap.size ≤ G) := ⟨h9, HG.out.2.1.ks k9 HG.out.1 (by decide) (by decide) (by decide), HG.out.2.2.1.ks k9 HG.out.1 (by decide) (by decide), HG.out.2.2.2.1.trans (k9.below (fun q hq => by have h1 := HO.out; omega) HG.out.2.2.2.1.size), HG.out.2.2.2.2⟩
        clear h9 k9 HG
        go_wp2_with fail
        refine bodyPost_ret (results_sd2 rfl _ _ B2 _ rfl HF.out.1) rfl ?_
        exact ⟨P, G, v, by simp [Array.getD], HF.out.2⟩
      · have HE : Hid (qls ls = two0) := by show _ = _; unfold qls; rw [hnb]; rfl
        clear hnb
        go_wp2_with fail
        refine Calls.mono (num_any 180 wr) ?_
        rintro en wn ⟨rfl, rfl⟩
        go_wp2_with fail
        refine Calls.mono (two_any wr) ?_
        rintro e3 w3 ⟨rfl, l3, _, b3⟩
        obtain ⟨B, hB⟩ : ∃ B, wr.heap.size = B := ⟨_, rfl⟩
        rw [hB] at l3 ⊢
        have QM : Hid _ := new_any (some ⟨B, 0, none⟩) 2 2 two0 LiW w3 rfl l3 (by decide)
        have HZ3 : Hid (RqvAt w3 B7 v ∧ SdvAt w3 B2 sz0 ∧ Below w.heap.size w w3) := ⟨HZ.out.1.below b3, HZ.out.2.1.below b3, bthen HZ.out.2.2.2 b3⟩
        clear l3 b3 hB HZ
        go_wp2_with fail
        refine Calls.mono QM.out ?_
        rintro e4 w4 (⟨hnb, P, G, rfl, q4, b4, hP, hG⟩ | ⟨hnb, _, _⟩)
        · have HZ4 : Hid (RqvAt w4 B7 v ∧ SdvAt w4 B2 sz0 ∧ Below w.heap.size w w4 ∧ QQ w4 P G (two0.map mk) tz ∧ w.heap.size ≤ P ∧ w.heap.size ≤ G) := by
            have hs := HZ3.out.2.2.size
            exact ⟨HZ3.out.1.below b4, HZ3.out.2.1.below b4, bthen HZ3.out.2.2 b4, q4, by omega, by omega⟩
          clear hnb q4 b4 hP hG QM HZ3
          go_wp2_with fail
          refine Calls.mono (two_any w4) ?_
          rintro e5 w5 ⟨rfl, l5, _, b5⟩
          obtain ⟨B', hB'⟩ : ∃ B, w4.heap.size = B := ⟨_, rfl⟩
          rw [hB'] at l5 ⊢
          have QM : Hid _ := newR_any (some ⟨B', 0, none⟩) 2 2 two0 LiW w5 rfl l5
          have HZ5 : Hid (RqvAt w5 B7 v ∧ SdvAt w5 B2 sz0 ∧ Below w.heap.size w w5 ∧ QQ w5 P G (two0.map mk) tz) := ⟨HZ4.out.1.below b5, HZ4.out.2.1.below b5, bthen HZ4.out.2.2.1 b5, HZ4.out.2.2.2.1.below b5⟩
          clear l5 b5 hB'
          go_wp2_with fail
          refine Calls.mono QM.out ?_
          rintro e6 w6 (⟨hnb, u, rfl, s6, t6, b6⟩ | ⟨hnb, _, _⟩)
          · have HZ6 : Hid (RqvAt w6 B7 v ∧ SdvAt w6 B2 sz0 ∧ Below w.heap.size w w6 ∧ QQ w6 P G (two0.map mk) tz ∧ AL w6 u (c0s two0) tz (two0.map rmk)) := ⟨HZ5.out.1.below b6, HZ5.out.2.1.below b6, bthen HZ5.out.2.2.1 b6, HZ5.out.2.2.2.below b6, s6, csR_rmk two0, t6⟩
            clear hnb s6 t6 b6 QM HZ5
            go_upto_region 17 with (first | (refine wpList_store_rqv (.tmp 7) (.tmp 75) rfl rfl B7 v u rfl rfl HZ6.out.1 rfl ?_; intro w7 h7 k7))
            have HZ7 : Hid (RqvAt w7 B7 u ∧ SdvAt w7 B2 sz0 ∧ Below w.heap.size w w7 ∧ QQ w7 P G (two0.map mk) tz ∧ AL w7 u (c0s two0) tz (two0.map rmk)) := by
              have h1 := HBB.out
              have h2 := HO.out
              exact ⟨h7, HZ6.out.2.1.ch k7 (by omega), HZ6.out.2.2.1.trans (k7.below (fun q hq => by omega) HZ6.out.2.2.1.size), HZ6.out.2.2.2.1.ks k7 HZ6.out.1 (by decide) (by decide) (by decide), HZ6.out.2.2.2.2.ks k7 HZ6.out.1 (by decide) (by decide)⟩
            clear h7 k7 HZ6
            refine MixH.start (fun A => RqvAt A B7 u) (by kernel_rfl) ?_
            obtain ⟨wA, hwA⟩ : ∃ W_, W_ = w7.drew := ⟨_, rfl⟩
            have bdr : Below w7.heap.size w7 wA := by rw [hwA]; exact (Below.refl _ _).drew
            have hS : RqvAt wA B7 u := HZ7.out.1.below bdr
            have HG : Hid (SdvAt wA B2 sz0 ∧ QQ wA P G ((qls ls).map mk) tz ∧ AL wA u (c0s (qls ls)) tz ((qls ls).map rmk) ∧ Below w.heap.size w wA ∧ w.heap.size ≤ P ∧ w.heap.size ≤ G) := by
              rw [HE.out]
              exact ⟨HZ7.out.2.1.below bdr, HZ7.out.2.2.2.1.below bdr, HZ7.out.2.2.2.2.below bdr, bthen HZ7.out.2.2.1 bdr, HZ4.out.2.2.2.2⟩
            rw [← hwA]
            clear hwA bdr
            clear HZ7 HZ4
            refine MixH.takes [true, false, false, true, true, true, true] 7 (by kernel_rfl) (by kernel_rfl) (by decide) (by kernel_rfl) hS (fun K hK => ?_)
            simp only [Mix.pick]
            repeat (go_big_quiet_step (fail))
            refine wpQuiet_nil (hK _ ?_)
            clear hK K
            refine MixH.take 6 1 _ (.agg (rqA u)) rfl (by kernel_rfl) (by kernel_rfl) (by kernel_rfl) (by kernel_rfl) (yields_rqv (.tmp 7) rfl B7 0 u rfl rfl (fun A hA => hA.range 0 3)) hS (fun a' ha => ?_)
            simp only [Act.put, List.setIfInBounds_toArray, List.set_cons_succ, List.set_cons_zero] at ha
            subst ha
            refine MixH.take 5 2 _ (.agg (sdA ⟨some ⟨P, 0, none⟩, u⟩)) rfl (by kernel_rfl) (by kernel_rfl) (by kernel_rfl) (by kernel_rfl) (yields_bsd (.tmp 77) (.tmp 78) rfl (some ⟨P, 0, none⟩) u rfl rfl rfl) hS (fun a' ha => ?_)
            simp only [Act.put, List.setIfInBounds_toArray, List.set_cons_succ, List.set_cons_zero] at ha
            subst ha
            refine MixH.one [false, false, false, false, false, false, false, true] 4 7 _ rfl rfl (by kernel_rfl) (by kernel_rfl) (fun K hK => ?_)
            simp only [Mix.pick]
            go_wp2_with fail
            refine Calls.mono (num_any 0 wA) ?_
            rintro en wn ⟨rfl, rfl⟩

            go_wp2_with fail
            refine ⟨rfl, hK _ _ hS ?_⟩
            clear hK K
            refine MixH.takes [false, false, false, false, false, false, false, false, true, true] 2 (by kernel_rfl) (by kernel_rfl) (by decide) (by kernel_rfl) hS (fun K hK => ?_)
            simp only [Mix.pick]
            repeat (go_big_quiet_step (fail))
            refine wpQuiet_nil (hK _ ?_)
            clear hK K
            refine MixH.one [false, false, false, false, false, false, false, false, false, false, true] 1 10 _ rfl rfl (by kernel_rfl) (by kernel_rfl) (fun K hK => ?_)
            simp only [Mix.pick]
            refine wpList_store_sdv (.tmp 2) (.tmp 79) rfl rfl B2 sz0 ⟨some ⟨P, 0, none⟩, u⟩ rfl rfl HG.out.1 rfl ?_
            intro w9 h9 k9
            refine wpList_nil ?_
            replace hS : RqvAt w9 B7 u := hS.ch k9 (by have h1 := HBB.out; omega)
            refine ⟨rfl, hK _ _ hS ?_⟩
            clear hK K
            refine MixH.takes [false, false, false, false, false, false, false, false, false, false, false, true] 0 (by kernel_rfl) (by kernel_rfl) (by decide) (by kernel_rfl) hS (fun K hK => ?_)
            simp only [Mix.pick]
            repeat (go_big_quiet_step (fail))
            refine wpQuiet_nil (hK _ ?_)
            clear hK K
            refine MixH.done (by kernel_rfl) ?_
            clear hS
            have HF : Hid (SdvAt w9 B2 ⟨some ⟨P, 0, none⟩, u⟩ ∧ QQ w9 P G ((qls ls).map mk) tz ∧ AL w9 u (c0s (qls ls)) tz ((qls ls).map rmk) ∧ Below w.heap.size w w9 ∧ w.heap.size ≤ P ∧ w.heap.size ≤ G) := ⟨h9, HG.out.2.1.ks k9 HG.out.1 (by decide) (by decide) (by decide), HG.out.2.2.1.ks k9 HG.out.1 (by decide) (by decide), HG.out.2.2.2.1.trans (k9.below (fun q hq => by have h1 := HO.out; omega) HG.out.2.2.2.1.size), HG.out.2.2.2.2⟩
            clear h9 k9 HG
            go_wp2_with fail
            refine bodyPost_ret (results_sd2 rfl _ _ B2 _ rfl HF.out.1) rfl ?_
            exact ⟨P, G, u, by simp [Array.getD], HF.out.2⟩
          · rw [two0_ok] at hnb
            cases hnb
        · rw [two0_ok] at hnb
          cases hnb
end Go.Proofs.Ytcdbhkihbfjedaa
