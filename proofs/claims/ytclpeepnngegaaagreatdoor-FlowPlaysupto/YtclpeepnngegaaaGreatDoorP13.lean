/-
  FlOr: lemmas of the proof of FlowPlays, and walks through the functions that it calls.
-/
import Derived.Test.YtclpeepnngegaaaGreatDoorP00
import Derived.Test.YtclpeepnngegaaaGreatDoorP12
namespace Go.Proofs.YtclpeepnngegaaaGreatDoor.MixH
open Go.Proofs.YtclpeepnngegaaaGreatDoor.Mix
theorem pair {P : Program} {l : List Oper} {Q : Exit → Act → World → Prop} {S : World → Prop} {F : Nat} {listed : Array Bool} {a : Act} {w : World} (fs1 fs2 : List Bool) (fuel : Nat) (i j : Nat) (o1 o2 : Oper) (ho1 : pick fs1 l = [o1]) (ho2 : pick fs2 l = [o2]) (hi : l[i]? = some o1) (hj : l[j]? = some o2) (hr : Region.ready .any l.toArray listed = [i, j]) (hF : F = fuel + 1)
 (h1 : ∀ K : Act → World → Prop, (∀ a' w', S w' → wpAnyH P .any l.toArray (only Q) S fuel (listed.setIfInBounds i true) a' w' → K a' w') → wpList P l.toArray (only fun _ => K) (pick fs1 l) a w)
 (h2 : ∀ K : Act → World → Prop, (∀ a' w', S w' → wpAnyH P .any l.toArray (only Q) S fuel (listed.setIfInBounds j true) a' w' → K a' w') → wpList P l.toArray (only fun _ => K) (pick fs2 l) a w) : wpAnyH P .any l.toArray (only Q) S F listed a w := by
 subst hF
 refine wpAnyH_all hr (by simp) fun m hm => ?_
 simp only [zMc, zMn, or_false] at hm
 rcases hm with rfl | rfl
 · have h0 := h1 _ (fun _ _ hs h => (⟨hs, h⟩ : _ ∧ _))
   rw [ho1] at h0
   have hi' : l.toArray[m]? = some o1 := by simpa using hi
   unfold wpOp
   simp only [hi']
   unfold wpList at h0
   split
   · rename_i hw
     rw [if_pos hw] at h0
     rcases h0 with h0 | ⟨_, h0⟩
     · exact .inl (wp_only (fun a w h => h.2) h0)
     · exact absurd h0 (no_out _)
   · rename_i hw
     rw [if_neg hw] at h0
     exact h0.2
 · have h0 := h2 _ (fun _ _ hs h => (⟨hs, h⟩ : _ ∧ _))
   rw [ho2] at h0
   have hi' : l.toArray[m]? = some o2 := by simpa using hj
   unfold wpOp
   simp only [hi']
   unfold wpList at h0
   split
   · rename_i hw
     rw [if_pos hw] at h0
     rcases h0 with h0 | ⟨_, h0⟩
     · exact .inl (wp_only (fun a w h => h.2) h0)
     · exact absurd h0 (no_out _)
   · rename_i hw
     rw [if_neg hw] at h0
     exact h0.2
end Go.Proofs.YtclpeepnngegaaaGreatDoor.MixH
namespace Go.Proofs.YtclpeepnngegaaaGreatDoor
open Go.RowKit Go.Maps
theorem wpList_store_tupD {ops : Array Oper} {rest : List Oper} {o : Oper} {a : Act} {w : World} {Q : Exit → Act → World → Prop} (x y : Operand) (ho : o.op = .store 38 x y) (hd : o.dst = none) (O : Nat) (pv : TU) (pv' : TU) (hx : a.eval x = .pointer (some ⟨O, 0, none⟩)) (hy : a.eval y = .agg (tuC pv')) (hb : TupAt w O pv)
 (hw : Region.wanted o (yielded ops a.tmps) = true) (hh : ∀ w', TupAt w' O pv' → Ch (fun q => q = O) w w' → w'.drawn = w.drawn → wpList Tryz.prog ops Q rest a w') : wpList Tryz.prog ops Q (o :: rest) a w := by
 refine wpList_step fun K hK => ?_
 rw [if_pos hw]
 refine wp_store_row 38 x y ho O (tuC pv') hx hy _ (tuC pv) hb Tryz.size_tup rfl (by simp [tuC, Value.oneCell']) (hK _ _ ?_)
 rw [hd]
 refine hh _ (setRow_heap w O _ _ _ _ hb) ⟨rfl, rfl, rfl, ?_, ?_⟩ rfl
 · simp [World.setRow]
 · intro k hk hne
   simp only [World.setRow]
   rw [Array.getElem?_modify, if_neg (fun e => hne e.symm)]
theorem Gr.alloc (w : World) (o : Obj) : Gr w (w.alloc o) := ⟨(Below.refl _ _).alloc (Nat.le_refl _) _, Nat.le_refl _⟩
theorem Gr.drew (w : World) : Gr w w.drew := ⟨(Below.refl _ _).drew, Nat.le_succ _⟩
structure Cmp3 {α : Type} (c : α → α → Int) : Prop where
  anti : ∀ a b, c b a = - c a b
  tran : ∀ a b d, c a b ≤ 0 → c b d ≤ 0 → c a d ≤ 0
def lexV {α : Type} (c1 c2 : α → α → Int) (a b : α) : Int := if c1 a b = 0 then c2 a b else c1 a b
theorem Cmp3.lex {α : Type} {c1 c2 : α → α → Int} (h1 : Cmp3 c1) (h2 : Cmp3 c2) : Cmp3 (lexV c1 c2) := by
 constructor
 · intro a b
   unfold lexV
   have e1 := h1.anti a b
   have e2 := h2.anti a b
   split <;> split <;> omega
 · intro a b d hab hbd
   unfold lexV at *
   have a1 := h1.anti a b
   have a2 := h1.anti b d
   have a3 := h1.anti a d
   have t1 := h1.tran a b d
   have t2 := h1.tran b d a
   have t3 := h1.tran d a b
   have t4 := h2.tran a b d
   split at hab <;> split at hbd <;> split <;> omega
theorem Cmp3.on {α β : Type} {c : β → β → Int} (h : Cmp3 c) (f : α → β) : Cmp3 (fun a b => c (f a) (f b)) := ⟨fun _ _ => h.anti _ _, fun _ _ _ => h.tran _ _ _⟩
def ciV (a b : Int) : Int := if a < b then -1 else if b < a then 1 else 0
theorem ci_cmp : Cmp3 ciV := by
 constructor
 · intro a b
   unfold ciV
   split <;> split <;> (try split) <;> omega
 · intro a b d h1 h2
   unfold ciV at *
   split at h1 <;> split at h2 <;> (try split at h1) <;> (try split at h2) <;> split <;> (try split) <;> omega
def cbV (x y : Nat → Nat) : Int := if Lib.compareBytes (by16 x) (by16 y) < 0 then -1 else if Lib.compareBytes (by16 y) (by16 x) < 0 then 1 else 0
theorem cb_tri (x y : Nat → Nat) : (Lib.compareBytes (by16 x) (by16 y) < 0 ∧ ¬ Lib.compareBytes (by16 y) (by16 x) < 0 ∧ cbV x y = -1) ∨ (Lib.compareBytes (by16 y) (by16 x) < 0 ∧ ¬ Lib.compareBytes (by16 x) (by16 y) < 0 ∧ cbV x y = 1) ∨ (by16 x = by16 y ∧ cbV x y = 0) := by
 unfold cbV
 by_cases h1 : Lib.compareBytes (by16 x) (by16 y) < 0
 · exact .inl ⟨h1, cmp_asym _ _ h1, by rw [if_pos h1]⟩
 · by_cases h2 : Lib.compareBytes (by16 y) (by16 x) < 0
   · exact .inr (.inl ⟨h2, h1, by rw [if_neg h1, if_pos h2]⟩)
   · exact .inr (.inr ⟨cmp_eq0 _ _ (by rw [by16_len, by16_len]) h1 h2, by rw [if_neg h1, if_neg h2]⟩)
theorem cb_cmp : Cmp3 cbV := by
 constructor
 · intro x y
   rcases cb_tri x y with ⟨h1, h2, e⟩ | ⟨h1, h2, e⟩ | ⟨h1, e⟩ <;> rcases cb_tri y x with ⟨k1, k2, f⟩ | ⟨k1, k2, f⟩ | ⟨k1, f⟩
   all_goals first | omega | (rw [k1] at h1 h2; omega) | (rw [h1, cmp_self] at k1; omega)
 · intro x y z h1 h2
   rcases cb_tri x y with ⟨a1, a2, e⟩ | ⟨a1, a2, e⟩ | ⟨a1, e⟩
   · rcases cb_tri y z with ⟨b1, b2, f⟩ | ⟨b1, b2, f⟩ | ⟨b1, f⟩
     · have := cmp_trans _ _ _ a1 b1
       unfold cbV
       rw [if_pos this]
       omega
     · omega
     · rw [b1] at a1
       unfold cbV
       rw [if_pos a1]
       omega
   · omega
   · unfold cbV at h2 ⊢
     rw [a1]
     exact h2
def ipV (V : Int) (x : Nat → Nat) (U : Int) (y : Nat → Nat) : Int := if ciV V U = 0 then cbV x y else ciV V U
theorem ip_cmp : Cmp3 (fun (a b : Int × (Nat → Nat)) => ipV a.1 a.2 b.1 b.2) := Cmp3.lex (ci_cmp.on (fun a : Int × (Nat → Nat) => a.1)) (cb_cmp.on (fun a : Int × (Nat → Nat) => a.2))
theorem ipV_less (V : Int) (x : Nat → Nat) (U : Int) (y : Nat → Nat) : ipV V x U y = if lessB V U x y then -1 else if lessB U V y x then 1 else 0 := by
 unfold ipV lessB
 by_cases h : V = U
 · subst h
   have : ciV V V = 0 := by unfold ciV; simp
   rw [if_pos this]
   unfold cbV
   simp
 · have h' : ¬ U = V := fun e => h e.symm
   rw [if_neg h, if_neg h']
   have : ciV V U ≠ 0 := by unfold ciV; split <;> (try split) <;> omega
   rw [if_neg this]
   unfold ciV
   simp only [decide_eq_true_eq]
def c1V (a b : TU) : Int := ciV a.pr b.pr
def c2V (a b : TU) : Int := ipV a.sV a.s b.sV b.s
def c3V (a b : TU) : Int := ciV a.sp b.sp
def c4V (a b : TU) : Int := ipV a.dV a.d b.dV b.d
def c5V (a b : TU) : Int := ciV a.dp b.dp
def or5 (a b c d e : Int) : Int := if a ≠ 0 then a else if b ≠ 0 then b else if c ≠ 0 then c else if d ≠ 0 then d else e
def ordT (a b : TU) : Int := or5 (c1V a b) (c2V a b) (c3V a b) (c4V a b) (c5V a b)
theorem ordT_lex (a b : TU) : ordT a b = lexV c1V (lexV c2V (lexV c3V (lexV c4V c5V))) a b := by
 unfold ordT or5 lexV
 simp only [ne_eq, ite_not]
theorem ord_cmp : Cmp3 ordT := by
 have e : ordT = lexV c1V (lexV c2V (lexV c3V (lexV c4V c5V))) := by funext a b; exact ordT_lex a b
 rw [e]
 exact Cmp3.lex (ci_cmp.on TU.pr) (Cmp3.lex (ip_cmp.on (fun a : TU => (a.sV, a.s))) (Cmp3.lex (ci_cmp.on TU.sp) (Cmp3.lex (ip_cmp.on (fun a : TU => (a.dV, a.d))) (ci_cmp.on TU.dp))))
def ordV (a b : FN) : Int := ordT a.x b.x
theorem ordV_cmp : Cmp3 ordV := ord_cmp.on FN.x
set_option maxHeartbeats 1600000 in
set_option maxRecDepth 100000 in
theorem orderIP_gr (V U : Int) (x y : Nat → Nat) (w : World) : Calls Tryz.prog 62 #[.agg (ipCells V x), .agg (ipCells U y)] w fun e w' => e = .returned (.int .i64 (ipV V x U y)) ∧ Gr w w' := by
 have ha := ipr_new w V x
 have hb := ipr_new (w.alloc (.cells (ipCells V x) 24)) U y
 rw [World.size_alloc] at hb
 have g1 : Gr w (w.alloc (.cells (ipCells V x) 24)) := Gr.alloc _ _
 have g2 : Gr (w.alloc (.cells (ipCells V x) 24)) ((w.alloc (.cells (ipCells V x) 24)).alloc (.cells (ipCells U y) 24)) := Gr.alloc _ _
 have ha2 := ha.below g2.1
 have g3 := g1.trans g2
 obtain ⟨C1, hC1⟩ : ∃ C, C = ipCells V x := ⟨_, rfl⟩
 obtain ⟨C2, hC2⟩ : ∃ C, C = ipCells U y := ⟨_, rfl⟩
 obtain ⟨W, hW⟩ : ∃ W, W = (w.alloc (.cells (ipCells V x) 24)).alloc (.cells (ipCells U y) 24) := ⟨_, rfl⟩
 rw [← hW] at ha2 hb g3
 obtain ⟨B, hB⟩ : ∃ B, B = w.heap.size := ⟨_, rfl⟩
 rw [← hB] at ha2 hb
 have HA : Hid (IprAt W B V x ∧ IprAt W (B + 1) U y ∧ Gr w W) := ⟨ha2, hb, g3⟩
 rw [← hC1, ← hC2] at hW ⊢
 have HW : Hid ((w.alloc (.cells C1 24)).alloc (.cells C2 24) = W ∧ w.heap.size = B) := ⟨hW.symm, hB.symm⟩
 clear ha hb ha2 hW hB hC1 hC2 g1 g2 g3
 obtain ⟨l1, hl1⟩ : ∃ l, lessB V U x y = l := ⟨_, rfl⟩
 obtain ⟨l2, hl2⟩ : ∃ l, lessB U V y x = l := ⟨_, rfl⟩
 have HR : Hid (ipV V x U y = if l1 then -1 else if l2 then 1 else 0) := by show _ = _; rw [ipV_less, hl1, hl2]
 have Q1 : Hid _ := less_gr V U x y W
 rw [hl1] at Q1
 have HL2 : Hid (lessB U V y x = l2) := hl2
 clear hl1 hl2
 go_enter Tryz.func62, Tryz.ntmps62
 go_upto_region 1 with fail
 rw [HW.out.1, HW.out.2]
 go_wp2_with (first | (refine wpList_load_ipr (.tmp 2) rfl B V x rfl HA.out.1 rfl ?_) | (refine wpList_load_ipr (.tmp 3) rfl (B + 1) U y rfl HA.out.2.1 rfl ?_))
 refine Calls.mono Q1.out ?_
 rintro e x1 ⟨rfl, g1⟩
 have H1 : Hid (IprAt x1 B V x ∧ IprAt x1 (B + 1) U y ∧ Gr w x1) := ⟨HA.out.1.below g1.1, HA.out.2.1.below g1.1, HA.out.2.2.trans g1⟩
 clear Q1 g1
 cases l1 with
 | true =>
  go_wp2_with fail
  go_ret
  exact ⟨by rw [HR.out]; rfl, H1.out.2.2⟩
 | false =>
  have Q2 : Hid _ := less_gr U V y x x1
  rw [HL2.out] at Q2
  go_wp2_with (first | (refine wpList_load_ipr (.tmp 3) rfl (B + 1) U y rfl H1.out.2.1 rfl ?_) | (refine wpList_load_ipr (.tmp 2) rfl B V x rfl H1.out.1 rfl ?_))
  refine Calls.mono Q2.out ?_
  rintro e x2 ⟨rfl, g2⟩
  have H2 : Hid (Gr w x2) := H1.out.2.2.trans g2
  clear Q2 g2
  cases l2 with
  | true =>
   go_wp2_with fail
   go_ret
   exact ⟨by rw [HR.out]; rfl, H2.out⟩
  | false =>
   go_wp2_with fail
   go_ret
   exact ⟨by rw [HR.out]; rfl, H2.out⟩
def z5 (a b c d e : Int) (k : Nat) : Int := [a, b, c, d, e].getD k 0
theorem or5_at {a b c d e : Int} {k : Nat} (hk : k < 5) (h0 : ∀ j, j < k → z5 a b c d e j = 0) (hv : z5 a b c d e k ≠ 0) : or5 a b c d e = z5 a b c d e k := by
 have : k = 0 ∨ k = 1 ∨ k = 2 ∨ k = 3 ∨ k = 4 := by omega
 unfold or5
 rcases this with rfl | rfl | rfl | rfl | rfl
 · have h : a ≠ 0 := hv
   rw [if_pos h]; rfl
 · have h : b ≠ 0 := hv
   have a0 : a = 0 := h0 0 (by omega)
   rw [if_neg (by omega), if_pos h]; rfl
 · have h : c ≠ 0 := hv
   have a0 : a = 0 := h0 0 (by omega)
   have b0 : b = 0 := h0 1 (by omega)
   rw [if_neg (by omega), if_neg (by omega), if_pos h]; rfl
 · have h : d ≠ 0 := hv
   have a0 : a = 0 := h0 0 (by omega)
   have b0 : b = 0 := h0 1 (by omega)
   have c0 : c = 0 := h0 2 (by omega)
   rw [if_neg (by omega), if_neg (by omega), if_neg (by omega), if_pos h]; rfl
 · have a0 : a = 0 := h0 0 (by omega)
   have b0 : b = 0 := h0 1 (by omega)
   have c0 : c = 0 := h0 2 (by omega)
   have d0 : d = 0 := h0 3 (by omega)
   rw [if_neg (by omega), if_neg (by omega), if_neg (by omega), if_neg (by omega)]; rfl
theorem or5_no {a b c d e : Int} (h0 : ∀ j, j < 5 → z5 a b c d e j = 0) : or5 a b c d e = 0 := by
 have a0 : a = 0 := h0 0 (by omega)
 have b0 : b = 0 := h0 1 (by omega)
 have c0 : c = 0 := h0 2 (by omega)
 have d0 : d = 0 := h0 3 (by omega)
 have e0 : e = 0 := h0 4 (by omega)
 unfold or5
 rw [if_neg (by omega), if_neg (by omega), if_neg (by omega), if_neg (by omega)]
 exact e0
set_option maxHeartbeats 1600000 in
set_option maxRecDepth 100000 in
theorem or_any (a b c d e : Int) (B : Nat) (w : World) (h : ∀ k, k < 5 → w.cell? ⟨B, k, none⟩ = some (.int .i64 (z5 a b c d e k))) :
 Calls Tryz.prog 60 #[.slice (some ⟨B, 0, none⟩) 5 5] w fun r w' => r = .returned (.int .i64 (or5 a b c d e)) ∧ w = w' := by
 have H : Hid (∀ k, k < 5 → w.cell? ⟨B, k, none⟩ = some (.int .i64 (z5 a b c d e k))) := h
 clear h
 go_enter Tryz.func60, Tryz.ntmps60
 go_wp2_with fail
 go_loopw [8] (fun ix wr => ∃ k : Nat, ix = .int .i64 k ∧ k ≤ 5 ∧ w = wr ∧ Hid (∀ j, j < k → z5 a b c d e j = 0)) (fun ix _ => 5 - (intOf ix).toNat)
 case atStart => exact ⟨0, rfl, by omega, rfl, fun j h => by omega⟩
 case round =>
  obtain ⟨k, rfl, hk, rfl, HZ⟩ := hrel
  by_cases hlt : k < 5
  · have k0 : (0 : Int) ≤ (k : Int) := by omega
    have k1 : (k : Int) < 5 := by omega
    have k2 : ((k : Int)).toNat = k := by omega
    have wk : IntKind.i64.wrap ((k : Int) + 1) = (k : Int) + 1 := by rw [IntKind.wrap_i64]; omega
    obtain ⟨v, hv⟩ : ∃ v : Int, v = z5 a b c d e k := ⟨_, rfl⟩
    have hc : w.cell? ⟨B, k, none⟩ = some (.int .i64 v) := by rw [hv]; exact H.out k hlt
    have HV : Hid (v = z5 a b c d e k) := hv
    have HK : Hid (k < 5) := hlt
    clear hv hlt hk
    by_cases hz : v = 0
    · have hz1 : (v != 0) = false := by simpa using hz
      have HN : Hid (∀ j, j < k + 1 → z5 a b c d e j = 0) := fun j hj => by
       by_cases e1 : j = k
       · rw [e1, ← HV.out]; exact hz
       · exact HZ.out j (by omega)
      subst hz
      go_wp2_with fail
      go_roundw
      case rel => exact ⟨k + 1, by simp, by have := HK.out; omega, by first | trivial | rfl, HN⟩
      case measure => have := HK.out; simp [intOf]; omega
    · have hz1 : (v != 0) = true := by simpa using hz
      have HE : Hid (or5 a b c d e = v) := by
       show _ = _
       rw [HV.out]
       exact or5_at HK.out HZ.out (by rw [← HV.out]; exact hz)
      clear hz
      go_wp2_with fail
      go_ret
      exact ⟨by rw [HE.out]; rfl, rfl⟩
  · have k1 : ¬ (k : Int) < 5 := by omega
    have HE : Hid (or5 a b c d e = 0) := or5_no (fun j hj => HZ.out j (by omega))
    clear hlt
    go_wp2_with fail
    go_ret
    exact ⟨by rw [HE.out]; rfl, rfl⟩
def c5C (a b c d e : Int) : Array Value := #[.int .i64 a, .int .i64 b, .int .i64 c, .int .i64 d, .int .i64 e]
theorem run_bs5 (a b c d e : Int) (w : World) : (Instr.buildSlice 30 5 #[(0, .int .i64 a), (1, .int .i64 b), (2, .int .i64 c), (3, .int .i64 d), (4, .int .i64 e)]).run Tryz.prog w = .ok (.slice (some ⟨w.heap.size, 0, none⟩) 5 5) (w.alloc (.cells (c5C a b c d e) 3)) := by kernel_rfl
theorem wpList_bs5 {ops : Array Oper} {rest : List Oper} {o : Oper} {a : Act} {w : World} {Q : Exit → Act → World → Prop} (y0 y1 y2 y3 y4 : Operand) (ho : o.op = .buildSlice 30 5 #[(0, y0), (1, y1), (2, y2), (3, y3), (4, y4)]) (p q r s u : Int) (h0 : a.eval y0 = .int .i64 p) (h1 : a.eval y1 = .int .i64 q) (h2 : a.eval y2 = .int .i64 r) (h3 : a.eval y3 = .int .i64 s) (h4 : a.eval y4 = .int .i64 u) (hw : Region.wanted o (yielded ops a.tmps) = true)
 (h : wpList Tryz.prog ops Q rest (a.put o.dst (.slice (some ⟨w.heap.size, 0, none⟩) 5 5)) (w.alloc (.cells (c5C p q r s u) 3))) : wpList Tryz.prog ops Q (o :: rest) a w := by
 refine wpList_step fun K hK => ?_
 rw [if_pos hw]
 have hrun : (execOp a.eval o).run Tryz.prog w = .ok (.value (.slice (some ⟨w.heap.size, 0, none⟩) 5 5)) (w.alloc (.cells (c5C p q r s u) 3)) := by
  obtain ⟨dst, op, type, pos, after, guard⟩ := o
  simp only at ho
  subst ho
  simp only [execOp, Sem.run_bind, List.map_toArray, List.map_cons, List.map_nil, h0, h1, h2, h3, h4, run_bs5 p q r s u w, Result.andThen_ok]
  rfl
 unfold Oper.wp
 rw [hrun]
 exact hK _ _ h
structure Two2 (w : World) (A : World) (O5 O6 : Nat) (p q : TU) : Prop where
  a : TupAt A O5 p
  b : TupAt A O6 q
  ne : O5 ≠ O6
  l5 : w.heap.size ≤ O5
  l6 : w.heap.size ≤ O6
set_option maxHeartbeats 6400000 in
set_option maxRecDepth 100000 in
theorem order_gr (a b : FN) (w : World) : Calls Tryz.prog 42 #[.agg (flC a), .agg (flC b)] w fun e w' => e = .returned (.int .i64 (ordV a b)) ∧ Gr w w' := by
 have ha := flo_new w a
 have hb := flo_new (w.alloc (.cells (flC a) 72)) b
 rw [World.size_alloc] at hb
 have ha2 := ha.below ((Below.refl _ _).alloc (Nat.le_refl _) (.cells (flC b) 72))
 have bel : Below w.heap.size w ((w.alloc (.cells (flC a) 72)).alloc (.cells (flC b) 72)) := ((Below.refl _ _).alloc (Nat.le_refl _) _).alloc (by simp) _
 obtain ⟨C1, hC1⟩ : ∃ C, C = flC a := ⟨_, rfl⟩
 obtain ⟨C2, hC2⟩ : ∃ C, C = flC b := ⟨_, rfl⟩
 obtain ⟨W, hW⟩ : ∃ W, W = (w.alloc (.cells (flC a) 72)).alloc (.cells (flC b) 72) := ⟨_, rfl⟩
 have hdr : W.drawn = w.drawn := by rw [hW]; rfl
 have hsz : W.heap.size = w.heap.size + 2 := by rw [hW]; simp
 rw [← hW] at ha2 hb bel
 obtain ⟨B, hB⟩ : ∃ B, B = w.heap.size := ⟨_, rfl⟩
 rw [← hB] at ha2 hb
 have HA : Hid (FloAt W B a ∧ FloAt W (B + 1) b ∧ Gr w W ∧ W.heap.size = B + 2) := ⟨ha2, hb, ⟨bel, by rw [hdr]; exact Nat.le_refl _⟩, by rw [hsz, hB]⟩
 rw [← hC1, ← hC2] at hW ⊢
 have HB : Hid (w.heap.size = B) := hB.symm
 have HW : Hid ((w.alloc (.cells C1 72)).alloc (.cells C2 72) = W) := hW.symm
 clear ha hb ha2 hW hB hC1 hC2 bel hdr hsz
 obtain ⟨r, hr⟩ : ∃ r, r = ordV a b := ⟨_, rfl⟩
 rw [← hr]
 have HR : Hid (ordV a b = r) := hr.symm
 clear hr
 go_enter Tryz.func42, Tryz.ntmps42
 go_upto_region 1 with fail
 rw [HB.out, HW.out]
 go_cut [5, 6] (fun p5 p6 wx => ∃ O5 O6, p5 = .pointer (some ⟨O5, 0, none⟩) ∧ p6 = .pointer (some ⟨O6, 0, none⟩) ∧ Hid (Two2 w wx O5 O6 a.x b.x ∧ Gr w wx))
 case first =>
  refine MixH.start (fun A => Gr w A ∧ FloAt A B a ∧ FloAt A (B + 1) b) (by kernel_rfl) ?_
  obtain ⟨wA, hwA⟩ : ∃ wA, wA = W.drew := ⟨_, rfl⟩
  have bdr := zDr hwA
  have hS : Gr w wA ∧ FloAt wA B a ∧ FloAt wA (B + 1) b := ⟨HA.out.2.2.1.trans ⟨bdr, by rw [hwA]; show W.drawn ≤ W.drawn + 1; omega⟩, HA.out.1.below bdr, HA.out.2.1.below bdr⟩
  have HSA : Hid (wA.heap.size = w.heap.size + 2) := by show wA.heap.size = _; rw [hwA, HB.out]; exact HA.out.2.2.2
  rw [← hwA]
  clear hwA bdr
  refine MixH.tks [true, false, true] 6 hS (fun K hK => ?_)
  simp only [Mix.pick]
  repeat (go_big_quiet_step (fail))
  refine wpQuiet_nil (hK _ ?_)
  clear hK K
  refine MixH.tk 5 1 rfl (.agg (tuC a.x)) (yields_tup (.tmp 7) rfl B 0 a.x rfl rfl (fun A hA => hA.2.1.tup)) hS (fun a' ha => ?_)
  simp only [zP1, zP2, zP3, zP4] at ha
  subst ha
  refine MixH.tk 4 3 rfl (.agg (tuC b.x)) (yields_tup (.tmp 9) rfl (B + 1) 0 b.x rfl rfl (fun A hA => hA.2.2.tup)) hS (fun a' ha => ?_)
  simp only [zP1, zP2, zP3, zP4] at ha
  subst ha
  refine MixH.pair [false, false, false, false, true] [false, false, false, false, false, true] 3 4 5 _ _ rfl rfl rfl rfl (by kernel_rfl) (by kernel_rfl) (fun K hK => ?_) (fun K hK => ?_)
  · simp only [Mix.pick]
    refine wpList_alloc_tup rfl rfl ?_
    have bF : Below wA.heap.size wA (wA.alloc (.cells (tuC xz) 38)) := (Below.refl _ _).alloc (Nat.le_refl _) _
    have nF : TupAt (wA.alloc (.cells (tuC xz) 38)) wA.heap.size xz := tup_new _ _
    have sF : (wA.alloc (.cells (tuC xz) 38)).heap.size = wA.heap.size + 1 := World.size_alloc _ _
    have dF : (wA.alloc (.cells (tuC xz) 38)).drawn = wA.drawn := rfl
    obtain ⟨wF, hwF⟩ : ∃ wF, wF = wA.alloc (.cells (tuC xz) 38) := ⟨_, rfl⟩
    rw [← hwF] at bF nF sF dF ⊢
    clear hwF
    replace hS : Gr w wF ∧ FloAt wF B a ∧ FloAt wF (B + 1) b := ⟨hS.1.trans ⟨bF, Nat.le_of_eq dF.symm⟩, hS.2.1.below bF, hS.2.2.below bF⟩
    obtain ⟨OF, hOF⟩ : ∃ OF, OF = wA.heap.size := ⟨_, rfl⟩
    rw [← hOF] at nF ⊢
    have HOF : Hid (OF = wA.heap.size ∧ TupAt wF OF xz ∧ Below wA.heap.size wA wF ∧ wF.heap.size = wA.heap.size + 1) := ⟨hOF, nF, bF, sF⟩
    clear hOF bF nF sF dF
    go_wp2_with fail
    refine ⟨rfl, hK _ _ hS ?_⟩
    clear hK K
    refine MixH.one [false, false, false, false, false, true] 2 5 _ rfl rfl (by kernel_rfl) (by kernel_rfl) (fun K hK => ?_)
    simp only [Mix.pick]
    refine wpList_alloc_tup rfl rfl ?_
    have bG : Below wF.heap.size wF (wF.alloc (.cells (tuC xz) 38)) := (Below.refl _ _).alloc (Nat.le_refl _) _
    have nG : TupAt (wF.alloc (.cells (tuC xz) 38)) wF.heap.size xz := tup_new _ _
    have sG : (wF.alloc (.cells (tuC xz) 38)).heap.size = wF.heap.size + 1 := World.size_alloc _ _
    have dG : (wF.alloc (.cells (tuC xz) 38)).drawn = wF.drawn := rfl
    obtain ⟨wG, hwG⟩ : ∃ wG, wG = wF.alloc (.cells (tuC xz) 38) := ⟨_, rfl⟩
    rw [← hwG] at bG nG sG dG ⊢
    clear hwG
    replace hS : Gr w wG ∧ FloAt wG B a ∧ FloAt wG (B + 1) b := ⟨hS.1.trans ⟨bG, Nat.le_of_eq dG.symm⟩, hS.2.1.below bG, hS.2.2.below bG⟩
    obtain ⟨OG, hOG⟩ : ∃ OG, OG = wF.heap.size := ⟨_, rfl⟩
    rw [← hOG] at nG ⊢
    have HOG : Hid (OG = wF.heap.size ∧ TupAt wG OG xz ∧ Below wF.heap.size wF wG ∧ wG.heap.size = wF.heap.size + 1) := ⟨hOG, nG, bG, sG⟩
    clear hOG bG nG sG dG
    go_wp2_with fail
    refine ⟨rfl, hK _ _ hS ?_⟩
    clear hK K
    have HPP : Hid (TupAt wG OF xz ∧ TupAt wG OG xz ∧ OF ≠ OG ∧ w.heap.size + 2 ≤ OF ∧ w.heap.size + 2 ≤ OG) := by
     have h1 := HOF.out
     have h2 := HOG.out
     have h3 := HSA.out
     exact ⟨h1.2.1.below h2.2.2.1, h2.2.1, by omega, by omega, by omega⟩
    refine MixH.one [false, false, false, false, false, false, true] 1 6 _ rfl rfl (by kernel_rfl) (by kernel_rfl) (fun K hK => ?_)
    simp only [Mix.pick]
    refine wpList_store_tupD (.tmp 5) (.tmp 8) rfl rfl OF xz a.x rfl rfl HPP.out.1 rfl ?_
    intro wH hwH kwH dwH
    have gwH : Gr w wH := ⟨hS.1.1.trans (kwH.below (fun q e => by have e' : q = OF := e; have := HPP.out; omega) hS.1.1.size), by rw [dwH]; exact hS.1.2⟩
    replace hS : Gr w wH ∧ FloAt wH B a ∧ FloAt wH (B + 1) b := ⟨gwH, hS.2.1.ch kwH (by have := HPP.out; have := HB.out; omega), hS.2.2.ch kwH (by have := HPP.out; have := HB.out; omega)⟩
    have HwH : Hid (TupAt wH OF a.x ∧ Ch (fun q => q = OF) wG wH) := ⟨hwH, kwH⟩
    clear hwH kwH dwH gwH
    go_wp2_with fail
    refine ⟨rfl, hK _ _ hS ?_⟩
    clear hK K
    have HX6 : Hid (TupAt wH OG xz) := HPP.out.2.1.ch HwH.out.2 (by have := HPP.out; omega)
    refine MixH.one [false, false, false, false, false, false, false, true] 0 7 _ rfl rfl (by kernel_rfl) (by kernel_rfl) (fun K hK => ?_)
    simp only [Mix.pick]
    refine wpList_store_tupD (.tmp 6) (.tmp 10) rfl rfl OG xz b.x rfl rfl HX6.out rfl ?_
    intro wI hwI kwI dwI
    have gwI : Gr w wI := ⟨hS.1.1.trans (kwI.below (fun q e => by have e' : q = OG := e; have := HPP.out; omega) hS.1.1.size), by rw [dwI]; exact hS.1.2⟩
    replace hS : Gr w wI ∧ FloAt wI B a ∧ FloAt wI (B + 1) b := ⟨gwI, hS.2.1.ch kwI (by have := HPP.out; have := HB.out; omega), hS.2.2.ch kwI (by have := HPP.out; have := HB.out; omega)⟩
    have HwI : Hid (TupAt wI OG b.x ∧ Ch (fun q => q = OG) wH wI) := ⟨hwI, kwI⟩
    clear hwI kwI dwI gwI
    go_wp2_with fail
    refine ⟨rfl, hK _ _ hS ?_⟩
    clear hK K
    refine MixH.done (by kernel_rfl) ?_
    have HEND : Hid (Two2 w wI OF OG a.x b.x ∧ Gr w wI) := ⟨⟨HwH.out.1.ch HwI.out.2 (by have := HPP.out; omega), HwI.out.1, by have := HPP.out; omega, by have := HPP.out; omega, by have := HPP.out; omega⟩, hS.1⟩
    clear hS
    go_wp2_with fail
    go_meet
    exact ⟨OF, OG, rfl, rfl, HEND⟩
  · simp only [Mix.pick]
    refine wpList_alloc_tup rfl rfl ?_
    have bF : Below wA.heap.size wA (wA.alloc (.cells (tuC xz) 38)) := (Below.refl _ _).alloc (Nat.le_refl _) _
    have nF : TupAt (wA.alloc (.cells (tuC xz) 38)) wA.heap.size xz := tup_new _ _
    have sF : (wA.alloc (.cells (tuC xz) 38)).heap.size = wA.heap.size + 1 := World.size_alloc _ _
    have dF : (wA.alloc (.cells (tuC xz) 38)).drawn = wA.drawn := rfl
    obtain ⟨wF, hwF⟩ : ∃ wF, wF = wA.alloc (.cells (tuC xz) 38) := ⟨_, rfl⟩
    rw [← hwF] at bF nF sF dF ⊢
    clear hwF
    replace hS : Gr w wF ∧ FloAt wF B a ∧ FloAt wF (B + 1) b := ⟨hS.1.trans ⟨bF, Nat.le_of_eq dF.symm⟩, hS.2.1.below bF, hS.2.2.below bF⟩
    obtain ⟨OF, hOF⟩ : ∃ OF, OF = wA.heap.size := ⟨_, rfl⟩
    rw [← hOF] at nF ⊢
    have HOF : Hid (OF = wA.heap.size ∧ TupAt wF OF xz ∧ Below wA.heap.size wA wF ∧ wF.heap.size = wA.heap.size + 1) := ⟨hOF, nF, bF, sF⟩
    clear hOF bF nF sF dF
    go_wp2_with fail
    refine ⟨rfl, hK _ _ hS ?_⟩
    clear hK K
    refine MixH.one [false, false, false, false, true] 2 4 _ rfl rfl (by kernel_rfl) (by kernel_rfl) (fun K hK => ?_)
    simp only [Mix.pick]
    refine wpList_alloc_tup rfl rfl ?_
    have bG : Below wF.heap.size wF (wF.alloc (.cells (tuC xz) 38)) := (Below.refl _ _).alloc (Nat.le_refl _) _
    have nG : TupAt (wF.alloc (.cells (tuC xz) 38)) wF.heap.size xz := tup_new _ _
    have sG : (wF.alloc (.cells (tuC xz) 38)).heap.size = wF.heap.size + 1 := World.size_alloc _ _
    have dG : (wF.alloc (.cells (tuC xz) 38)).drawn = wF.drawn := rfl
    obtain ⟨wG, hwG⟩ : ∃ wG, wG = wF.alloc (.cells (tuC xz) 38) := ⟨_, rfl⟩
    rw [← hwG] at bG nG sG dG ⊢
    clear hwG
    replace hS : Gr w wG ∧ FloAt wG B a ∧ FloAt wG (B + 1) b := ⟨hS.1.trans ⟨bG, Nat.le_of_eq dG.symm⟩, hS.2.1.below bG, hS.2.2.below bG⟩
    obtain ⟨OG, hOG⟩ : ∃ OG, OG = wF.heap.size := ⟨_, rfl⟩
    rw [← hOG] at nG ⊢
    have HOG : Hid (OG = wF.heap.size ∧ TupAt wG OG xz ∧ Below wF.heap.size wF wG ∧ wG.heap.size = wF.heap.size + 1) := ⟨hOG, nG, bG, sG⟩
    clear hOG bG nG sG dG
    go_wp2_with fail
    refine ⟨rfl, hK _ _ hS ?_⟩
    clear hK K
    have HPP : Hid (TupAt wG OF xz ∧ TupAt wG OG xz ∧ OF ≠ OG ∧ w.heap.size + 2 ≤ OF ∧ w.heap.size + 2 ≤ OG) := by
     have h1 := HOF.out
     have h2 := HOG.out
     have h3 := HSA.out
     exact ⟨h1.2.1.below h2.2.2.1, h2.2.1, by omega, by omega, by omega⟩
    refine MixH.one [false, false, false, false, false, false, true] 1 6 _ rfl rfl (by kernel_rfl) (by kernel_rfl) (fun K hK => ?_)
    simp only [Mix.pick]
    refine wpList_store_tupD (.tmp 5) (.tmp 8) rfl rfl OG xz a.x rfl rfl HPP.out.2.1 rfl ?_
    intro wH hwH kwH dwH
    have gwH : Gr w wH := ⟨hS.1.1.trans (kwH.below (fun q e => by have e' : q = OG := e; have := HPP.out; omega) hS.1.1.size), by rw [dwH]; exact hS.1.2⟩
    replace hS : Gr w wH ∧ FloAt wH B a ∧ FloAt wH (B + 1) b := ⟨gwH, hS.2.1.ch kwH (by have := HPP.out; have := HB.out; omega), hS.2.2.ch kwH (by have := HPP.out; have := HB.out; omega)⟩
    have HwH : Hid (TupAt wH OG a.x ∧ Ch (fun q => q = OG) wG wH) := ⟨hwH, kwH⟩
    clear hwH kwH dwH gwH
    go_wp2_with fail
    refine ⟨rfl, hK _ _ hS ?_⟩
    clear hK K
    have HX6 : Hid (TupAt wH OF xz) := HPP.out.1.ch HwH.out.2 (by have := HPP.out; omega)
    refine MixH.one [false, false, false, false, false, false, false, true] 0 7 _ rfl rfl (by kernel_rfl) (by kernel_rfl) (fun K hK => ?_)
    simp only [Mix.pick]
    refine wpList_store_tupD (.tmp 6) (.tmp 10) rfl rfl OF xz b.x rfl rfl HX6.out rfl ?_
    intro wI hwI kwI dwI
    have gwI : Gr w wI := ⟨hS.1.1.trans (kwI.below (fun q e => by have e' : q = OF := e; have := HPP.out; omega) hS.1.1.size), by rw [dwI]; exact hS.1.2⟩
    replace hS : Gr w wI ∧ FloAt wI B a ∧ FloAt wI (B + 1) b := ⟨gwI, hS.2.1.ch kwI (by have := HPP.out; have := HB.out; omega), hS.2.2.ch kwI (by have := HPP.out; have := HB.out; omega)⟩
    have HwI : Hid (TupAt wI OF b.x ∧ Ch (fun q => q = OF) wH wI) := ⟨hwI, kwI⟩
    clear hwI kwI dwI gwI
    go_wp2_with fail
    refine ⟨rfl, hK _ _ hS ?_⟩
    clear hK K
    refine MixH.done (by kernel_rfl) ?_
    have HEND : Hid (Two2 w wI OG OF a.x b.x ∧ Gr w wI) := ⟨⟨HwH.out.1.ch HwI.out.2 (by have := HPP.out; omega), HwI.out.1, by have := HPP.out; omega, by have := HPP.out; omega, by have := HPP.out; omega⟩, hS.1⟩
    clear hS
    go_wp2_with fail
    go_meet
    exact ⟨OG, OF, rfl, rfl, HEND⟩
 case rest =>
  obtain ⟨O5, O6, rfl, rfl, HT⟩ := hcut
  obtain ⟨p1, hp1⟩ : ∃ p, p = c1V a.x b.x := ⟨_, rfl⟩
  obtain ⟨p2, hp2⟩ : ∃ p, p = c2V a.x b.x := ⟨_, rfl⟩
  obtain ⟨p3, hp3⟩ : ∃ p, p = c3V a.x b.x := ⟨_, rfl⟩
  obtain ⟨p4, hp4⟩ : ∃ p, p = c4V a.x b.x := ⟨_, rfl⟩
  obtain ⟨p5, hp5⟩ : ∃ p, p = c5V a.x b.x := ⟨_, rfl⟩
  have HV : Hid (r = or5 p1 p2 p3 p4 p5) := by show _ = _; rw [← HR.out]; unfold ordV ordT; rw [hp1, hp2, hp3, hp4, hp5]
  have HP : Hid ((if a.x.pr < b.x.pr then (-1 : Int) else if b.x.pr < a.x.pr then 1 else 0) = p1 ∧ ipV a.x.sV a.x.s b.x.sV b.x.s = p2 ∧ (if a.x.sp < b.x.sp then (-1 : Int) else if b.x.sp < a.x.sp then 1 else 0) = p3 ∧ ipV a.x.dV a.x.d b.x.dV b.x.d = p4 ∧ (if a.x.dp < b.x.dp then (-1 : Int) else if b.x.dp < a.x.dp then 1 else 0) = p5) := ⟨hp1.symm, hp2.symm, hp3.symm, hp4.symm, hp5.symm⟩
  clear hp1 hp2 hp3 hp4 hp5
  go_upto_region 2 with fail
  refine MixH.start (fun A => TupAt A O5 a.x ∧ TupAt A O6 b.x ∧ Gr w A) (by kernel_rfl) ?_
  obtain ⟨wA, hwA⟩ : ∃ wA, wA = wc.drew := ⟨_, rfl⟩
  have gdr : Gr wc wA := by rw [hwA]; exact Gr.drew _
  have hS : TupAt wA O5 a.x ∧ TupAt wA O6 b.x ∧ Gr w wA := ⟨HT.out.1.a.below gdr.1, HT.out.1.b.below gdr.1, HT.out.2.trans gdr⟩
  rw [← hwA]
  clear hwA gdr HT
  refine MixH.tks [true, false, true, false, false, true, false, true, false, false, true, false, true, false, false, true, false, true, false, false, true, false, true] 18 hS (fun K hK => ?_)
  simp only [Mix.pick]
  repeat (go_big_quiet_step (fail))
  refine wpQuiet_nil (hK _ ?_)
  clear hK K
  refine MixH.tk 17 1 rfl (.int .i64 a.x.pr) (yields_int (.tmp 11) rfl ⟨O5, 0, none⟩ (.int .i64 a.x.pr) rfl rfl (fun A hA => hA.1.c0)) hS (fun a' ha => ?_)
  simp only [zP1, zP2, zP3, zP4] at ha
  subst ha
  refine MixH.tk 16 3 rfl (.int .i64 b.x.pr) (yields_int (.tmp 13) rfl ⟨O6, 0, none⟩ (.int .i64 b.x.pr) rfl rfl (fun A hA => hA.2.1.c0)) hS (fun a' ha => ?_)
  simp only [zP1, zP2, zP3, zP4] at ha
  subst ha
  refine MixH.tk 15 6 rfl (.agg (ipCells a.x.sV a.x.s)) (yields_ipr (.tmp 16) rfl O5 1 a.x.sV a.x.s rfl rfl (fun A hA => hA.1.src)) hS (fun a' ha => ?_)
  simp only [zP1, zP2, zP3, zP4] at ha
  subst ha
  refine MixH.tk 14 8 rfl (.agg (ipCells b.x.sV b.x.s)) (yields_ipr (.tmp 18) rfl O6 1 b.x.sV b.x.s rfl rfl (fun A hA => hA.2.1.src)) hS (fun a' ha => ?_)
  simp only [zP1, zP2, zP3, zP4] at ha
  subst ha
  refine MixH.tk 13 11 rfl (.int .i64 a.x.sp) (yields_int (.tmp 21) rfl ⟨O5, 35, none⟩ (.int .i64 a.x.sp) rfl rfl (fun A hA => hA.1.c35)) hS (fun a' ha => ?_)
  simp only [zP1, zP2, zP3, zP4] at ha
  subst ha
  refine MixH.tk 12 13 rfl (.int .i64 b.x.sp) (yields_int (.tmp 23) rfl ⟨O6, 35, none⟩ (.int .i64 b.x.sp) rfl rfl (fun A hA => hA.2.1.c35)) hS (fun a' ha => ?_)
  simp only [zP1, zP2, zP3, zP4] at ha
  subst ha
  refine MixH.tk 11 16 rfl (.agg (ipCells a.x.dV a.x.d)) (yields_ipr (.tmp 26) rfl O5 18 a.x.dV a.x.d rfl rfl (fun A hA => hA.1.dst)) hS (fun a' ha => ?_)
  simp only [zP1, zP2, zP3, zP4] at ha
  subst ha
  refine MixH.tk 10 18 rfl (.agg (ipCells b.x.dV b.x.d)) (yields_ipr (.tmp 28) rfl O6 18 b.x.dV b.x.d rfl rfl (fun A hA => hA.2.1.dst)) hS (fun a' ha => ?_)
  simp only [zP1, zP2, zP3, zP4] at ha
  subst ha
  refine MixH.tk 9 21 rfl (.int .i64 a.x.dp) (yields_int (.tmp 31) rfl ⟨O5, 36, none⟩ (.int .i64 a.x.dp) rfl rfl (fun A hA => hA.1.c36)) hS (fun a' ha => ?_)
  simp only [zP1, zP2, zP3, zP4] at ha
  subst ha
  refine MixH.tk 8 23 rfl (.int .i64 b.x.dp) (yields_int (.tmp 33) rfl ⟨O6, 36, none⟩ (.int .i64 b.x.dp) rfl rfl (fun A hA => hA.2.1.c36)) hS (fun a' ha => ?_)
  simp only [zP1, zP2, zP3, zP4] at ha
  subst ha
  refine MixH.one [false, false, false, false, true] 7 4 _ rfl rfl (by kernel_rfl) (by kernel_rfl) (fun K hK => ?_)
  simp only [Mix.pick]
  go_wp2_with fail
  refine Calls.mono (cmpI_any a.x.pr b.x.pr wA) ?_
  rintro e1 wz ⟨rfl, rfl⟩
  rw [HP.out.1]
  go_wp2_with fail
  refine ⟨rfl, hK _ _ hS ?_⟩
  clear hK K
  refine MixH.one [false, false, false, false, false, false, false, false, false, true] 6 9 _ rfl rfl (by kernel_rfl) (by kernel_rfl) (fun K hK => ?_)
  simp only [Mix.pick]
  go_wp2_with fail
  refine Calls.mono (orderIP_gr a.x.sV b.x.sV a.x.s b.x.s wA) ?_
  rintro e1 wB ⟨rfl, gz⟩
  rw [HP.out.2.1]
  replace hS : TupAt wB O5 a.x ∧ TupAt wB O6 b.x ∧ Gr w wB := ⟨hS.1.below gz.1, hS.2.1.below gz.1, hS.2.2.trans gz⟩
  clear gz
  go_wp2_with fail
  refine ⟨rfl, hK _ _ hS ?_⟩
  clear hK K
  refine MixH.one [false, false, false, false, false, false, false, false, false, false, false, false, false, false, true] 5 14 _ rfl rfl (by kernel_rfl) (by kernel_rfl) (fun K hK => ?_)
  simp only [Mix.pick]
  go_wp2_with fail
  refine Calls.mono (cmpI_any a.x.sp b.x.sp wB) ?_
  rintro e1 wz ⟨rfl, rfl⟩
  rw [HP.out.2.2.1]
  go_wp2_with fail
  refine ⟨rfl, hK _ _ hS ?_⟩
  clear hK K
  refine MixH.one [false, false, false, false, false, false, false, false, false, false, false, false, false, false, false, false, false, false, false, true] 4 19 _ rfl rfl (by kernel_rfl) (by kernel_rfl) (fun K hK => ?_)
  simp only [Mix.pick]
  go_wp2_with fail
  refine Calls.mono (orderIP_gr a.x.dV b.x.dV a.x.d b.x.d wB) ?_
  rintro e1 wC ⟨rfl, gz⟩
  rw [HP.out.2.2.2.1]
  replace hS : TupAt wC O5 a.x ∧ TupAt wC O6 b.x ∧ Gr w wC := ⟨hS.1.below gz.1, hS.2.1.below gz.1, hS.2.2.trans gz⟩
  clear gz
  go_wp2_with fail
  refine ⟨rfl, hK _ _ hS ?_⟩
  clear hK K
  refine MixH.one [false, false, false, false, false, false, false, false, false, false, false, false, false, false, false, false, false, false, false, false, false, false, false, false, true] 3 24 _ rfl rfl (by kernel_rfl) (by kernel_rfl) (fun K hK => ?_)
  simp only [Mix.pick]
  go_wp2_with fail
  refine Calls.mono (cmpI_any a.x.dp b.x.dp wC) ?_
  rintro e1 wz ⟨rfl, rfl⟩
  rw [HP.out.2.2.2.2]
  go_wp2_with fail
  refine ⟨rfl, hK _ _ hS ?_⟩
  clear hK K
  refine MixH.one [false, false, false, false, false, false, false, false, false, false, false, false, false, false, false, false, false, false, false, false, false, false, false, false, false, true] 2 25 _ rfl rfl (by kernel_rfl) (by kernel_rfl) (fun K hK => ?_)
  simp only [Mix.pick]
  refine wpList_bs5 (.tmp 15) (.tmp 20) (.tmp 25) (.tmp 30) (.tmp 35) rfl p1 p2 p3 p4 p5 rfl rfl rfl rfl rfl rfl ?_
  obtain ⟨wD, hwD⟩ : ∃ wD, wD = wC.alloc (.cells (c5C p1 p2 p3 p4 p5) 3) := ⟨_, rfl⟩
  have gB : Gr wC wD := by rw [hwD]; exact Gr.alloc _ _
  have HC5 : Hid (∀ k, k < 5 → wD.cell? ⟨wC.heap.size, k, none⟩ = some (.int .i64 (z5 p1 p2 p3 p4 p5 k))) := fun k hk => by
   rw [hwD, World.cell?_alloc_at _ _ _ _ rfl]
   have : k = 0 ∨ k = 1 ∨ k = 2 ∨ k = 3 ∨ k = 4 := by omega
   clear hk
   rcases this with rfl | rfl | rfl | rfl | rfl <;> rfl
  replace hS : TupAt wD O5 a.x ∧ TupAt wD O6 b.x ∧ Gr w wD := ⟨hS.1.below gB.1, hS.2.1.below gB.1, hS.2.2.trans gB⟩
  rw [← hwD]
  clear hwD gB
  go_wp2_with fail
  refine ⟨rfl, hK _ _ hS ?_⟩
  clear hK K
  refine MixH.one [false, false, false, false, false, false, false, false, false, false, false, false, false, false, false, false, false, false, false, false, false, false, false, false, false, false, true] 1 26 _ rfl rfl (by kernel_rfl) (by kernel_rfl) (fun K hK => ?_)
  simp only [Mix.pick]
  go_wp2_with fail
  refine Calls.mono (or_any p1 p2 p3 p4 p5 wC.heap.size wD HC5.out) ?_
  rintro e1 wz ⟨rfl, rfl⟩
  go_wp2_with fail
  refine ⟨rfl, hK _ _ hS ?_⟩
  clear hK K
  refine MixH.tks [false, false, false, false, false, false, false, false, false, false, false, false, false, false, false, false, false, false, false, false, false, false, false, false, false, false, false, true] 0 hS (fun K hK => ?_)
  simp only [Mix.pick]
  repeat (go_big_quiet_step (fail))
  refine wpQuiet_nil (hK _ ?_)
  clear hK K
  refine MixH.done (by kernel_rfl) ?_
  have HE : Hid (Gr w wD) := hS.2.2
  clear hS
  go_wp2_with fail
  go_ret
  exact ⟨by rw [HV.out]; rfl, HE.out⟩
end Go.Proofs.YtclpeepnngegaaaGreatDoor
