/-
  ParseUdp, ParseTcp, PutUdp, PutTcp in one form for what is taken and what is not; and of values that may be: written, and what was written read.
-/
import Derived.Test.YtldallgafpmcjaaDoorL9St1
namespace Go.Proofs.YtldallgafpmcjaaDoor
open Go.RowKit
open L4 (U9 T9)

theorem psOk_ver {V U : Int} {x y : Nat → Nat} (h : psOk V U x y = true) : (V = 4 ∨ V = 6) ∧ V = U := by
  simp only [psOk, Bool.and_eq_true, decide_eq_true_eq] at h
  have h1 := h.1.1
  unfold isAddr at h1
  by_cases h4 : V = 4
  · exact ⟨.inl h4, h.2⟩
  · rw [if_neg h4] at h1
    exact ⟨.inr (of_decide_eq_true h1), h.2⟩
theorem flat_few (l : List I4.OV) : l.length ≤ (I4.flatO l).length := by
  induction l with
  | nil => simp
  | cons o l ih => simp only [I4.flatO, List.length_cons, List.length_append]; omega
theorem d_zero (w : World) : DOk w [] none 0 0 := ⟨rfl, .inl rfl, by simp, Nat.le_refl _, by omega, by omega⟩
theorem t_zero (w : World) : TOk w t9z none 0 [] none 0 0 := ⟨rfl, rfl, .inl rfl, by omega, d_zero w⟩
theorem parseU_u (V U : Int) (x y : Nat → Nat) (a : Option Addr) (n cap : Nat) (bs : List Nat) (w : World) (hw : UW w) (hd : DOk w bs a n cap) (hx : ∀ i, i < 16 → x i < 256) (hy : ∀ i, i < 16 → y i < 256) :
    Calls Tryd.prog 18 #[.agg (ipCells V x), .agg (ipCells U y), .slice a n cap] w fun e w' => ∃ (er : Nat) (u : U9) (da : Option Addr) (m : Nat), e = .returned (.tuple #[.agg (uC u da m m), .int .i64 (er : Nat)]) ∧ Below w.heap.size w w' ∧ er = L4.uPE V (psOk V U x y) (psL V U x y 17 (L4.uN bs : Nat)) bs ∧ DOk w' u.d da m m ∧ (er = 0 → u = L4.uP bs ∧ m = L4.uN bs - 8 ∧ da = cutA a 8 m) ∧ (er ≠ 0 → u = u9z ∧ da = none ∧ m = 0) := by
  refine (parseU_any V U x y a n cap bs w hw hd hx hy).mono ?_
  rintro e w' ⟨er, rfl, hb, her⟩
  by_cases hz : er = 0
  · have h := L4.uPE_zero (her.symm.trans hz)
    refine ⟨er, L4.uP bs, cutA a 8 (L4.uN bs - 8), L4.uN bs - 8, by unfold puC; rw [if_pos hz], hb, her, ?_, fun _ => ⟨rfl, rfl, rfl⟩, fun h0 => absurd hz h0⟩
    have hl : 8 + (L4.uN bs - 8) ≤ bs.length := by omega
    have hs := (hd.seg.old hb).cut 8 (L4.uN bs - 8) (by rw [toI_len]; exact hl)
    rw [toI_drop, toI_take] at hs
    refine ⟨?_, hs, fun z hz => hd.d256 z (List.mem_of_mem_drop (List.mem_of_mem_take hz)), Nat.le_refl _, by omega, by omega⟩
    show ((bs.drop 8).take (L4.uN bs - 8)).length = _
    rw [List.length_take, List.length_drop]
    omega
  · exact ⟨er, u9z, none, 0, by unfold puC; rw [if_neg hz], hb, her, d_zero w', fun h0 => absurd h0 hz, fun _ => ⟨rfl, rfl, rfl⟩⟩
theorem parseT_u (V U : Int) (x y : Nat → Nat) (a : Option Addr) (n cap : Nat) (bs : List Nat) (w : World) (hw : TW w) (hlw : LW w) (hd : DOk w bs a n cap) (hx : ∀ i, i < 16 → x i < 256) (hy : ∀ i, i < 16 → y i < 256) :
    Calls Tryd.prog 19 #[.agg (ipCells V x), .agg (ipCells U y), .slice a n cap] w fun e w' => ∃ (er : Nat) (t : T9) (la : Option Addr) (ln lc : Nat) (os : List OpV) (da : Option Addr) (m : Nat), e = .returned (.tuple #[.agg (tC t la ln lc da m m), .int .i64 (er : Nat)]) ∧ Below w.heap.size w w' ∧ er = L4.tPE (psOk V U x y) (psL V U x y 6 (n : Nat)) bs ∧ TOk w' t la ln os da m m ∧ (er = 0 → t = L4.tP bs ∧ m = bs.length - L4.tH bs ∧ da = cutA a (L4.tH bs) m) ∧ (er ≠ 0 → t = t9z ∧ la = none ∧ ln = 0 ∧ lc = 0 ∧ os = [] ∧ da = none ∧ m = 0) ∧ (er = 0 → ∃ ops, L4.readO (L4.tOb bs) = some ops ∧ ln = ops.length ∧ os = ops.map (opV (a20 a cap) (L4.tOb bs)) ∧ w'.ownsRow w.heap.size 45 2 (.slice la ln lc) ln (opsC (a20 a cap) ops)) := by
  refine (parseT_any V U x y a n cap bs w hw hlw hd hx hy).mono ?_
  rintro e w' ⟨er, la, ln, lc, rfl, hb, her, hos⟩
  by_cases hz : er = 0
  · have h := L4.tPE_zero (her.symm.trans hz)
    obtain ⟨ops, hro, hrn, hown⟩ := hos hz
    have h9 := hd.old hb
    have o256 : ∀ z ∈ L4.tOb bs, z < 256 := fun z hz => h9.d256 z (List.mem_of_mem_drop (List.mem_of_mem_take hz))
    have hrs := L4.readO_some hro
    have hcp := hd.cap
    have hsg := seg_pre (seg_rest h9.seg 20 cap (by omega) (by rw [hd.dl]; exact hcp)) (L4.tH bs - 20)
    have hPat := opts_of_own hown hrn.symm hsg o256 (fun q hq => ((I4.scan_in _ 0 ops hrs.2.1 (Nat.zero_le _) o256).1 q hq).2.2.2) (by have h40 : (List.take (L4.tH bs - 20) (List.drop 20 bs)).length ≤ 40 := hrs.1; omega)
    have hdv := h9.seg.cut (L4.tH bs) (bs.length - L4.tH bs) (by rw [toI_len]; omega)
    rw [toI_drop, toI_take, List.take_of_length_le (by rw [List.length_drop]; omega)] at hdv
    have hol : ops.length ≤ 1099511627776 := by
      have h1 := (I4.scan_in _ 0 ops hrs.2.1 (Nat.zero_le _) o256).2
      have h2 := flat_few (ops.map (I4.ov (L4.tOb bs)))
      have h3 := hrs.1
      rw [List.length_map] at h2
      omega
    refine ⟨er, L4.tP bs, la, ln, lc, ops.map (opV (a20 a cap) (L4.tOb bs)), _, _, by unfold ptC; rw [if_pos hz], hb, her, ?_, fun _ => ⟨rfl, rfl, rfl⟩, fun h0 => absurd hz h0, fun _ => ⟨ops, hro, hrn, rfl, hown⟩⟩
    refine ⟨?_, by rw [List.length_map, hrn], hPat, by rw [hrn]; exact hol, ?_⟩
    · rw [vals_opV]
      simp only [L4.tP, hro, Option.getD_some]
    · refine ⟨?_, hdv, fun z hz => hd.d256 z (List.mem_of_mem_drop hz), Nat.le_refl _, by omega, by omega⟩
      show (bs.drop (L4.tH bs)).length = _
      rw [List.length_drop]
  · exact ⟨er, t9z, none, 0, 0, [], none, 0, by unfold ptC; rw [if_neg hz], hb, her, t_zero w', fun h0 => absurd h0 hz, fun _ => ⟨rfl, rfl, rfl, rfl, rfl, rfl, rfl⟩, fun h0 => absurd h0 hz⟩
theorem putU_ok (V U : Int) (x y : Nat → Nat) (u : U9) (da : Option Addr) (n c : Nat) (w : World) (hw : UW w) (k : DOk w u.d da n c) (hx : ∀ i, i < 16 → x i < 256) (hy : ∀ i, i < 16 → y i < 256) (hp : psOk V U x y = true) (hc : L4.uChk V u = 0) :
    Calls Tryd.prog 7 #[.agg (ipCells V x), .agg (ipCells U y), .agg (uC u da n c)] w fun e w' => ∃ g, e = .returned (.tuple #[.slice (some ⟨g, 0, none⟩) (8 + n : Nat) (8 + n : Nat), .int .i64 0]) ∧ Below w.heap.size w w' ∧ OwnB w' w.heap.size (.slice (some ⟨g, 0, none⟩) (8 + n) (8 + n)) (8 + n) (L4.uSer u (psL V U x y 17 ((8 + n : Nat) : Int))) ∧ DOk w' (L4.uSer u (psL V U x y 17 ((8 + n : Nat) : Int))) (some ⟨g, 0, none⟩) (8 + n) (8 + n) := by
  refine (putU_any V U x y u da n c w hw k hx hy).mono ?_
  rintro e w' ⟨v, er, rfl, her, hb, hr⟩
  have h0 : er = 0 := by rw [her]; unfold L4.uPutE; rw [hp, if_pos rfl, hc]
  subst h0
  rcases hr with ⟨_, g, rfl, ho⟩ | ⟨h, _⟩
  · refine ⟨g, rfl, hb, ho, ?_, (owns_seg_at ho).1, L4.uSer_256 u _ hc k.d256, Nat.le_refl _, ?_, ?_⟩
    · rw [L4.uSer_len, k.dl]
    · have := (L4.uChk_zero hc).2.2.2.2; rw [k.dl] at this; omega
    · have := (L4.uChk_zero hc).2.2.2.2; rw [k.dl] at this; omega
  · exact absurd rfl h
theorem parseU_ok (V U : Int) (x y : Nat → Nat) (u : U9) (n : Nat) (a : Option Addr) (w : World) (hw : UW w) (hx : ∀ i, i < 16 → x i < 256) (hy : ∀ i, i < 16 → y i < 256) (hp : psOk V U x y = true) (hc : L4.uChk V u = 0) (hn : u.d.length = n)
    (hd : DOk w (L4.uSer u (psL V U x y 17 ((8 + n : Nat) : Int))) a (8 + n) (8 + n)) :
    Calls Tryd.prog 18 #[.agg (ipCells V x), .agg (ipCells U y), .slice a (8 + n : Nat) (8 + n : Nat)] w fun e w' => ∃ dv, e = .returned (.tuple #[.agg (uC u dv n n), .int .i64 0]) ∧ Below w.heap.size w w' ∧ DOk w' u.d dv n n := by
  refine (parseU_u V U x y a (8 + n) (8 + n) _ w hw hd hx hy).mono ?_
  rintro e w' ⟨er, v, da, m, rfl, hb, her, hdv, h1, _⟩
  have h0 : er = 0 := by rw [her, hp, L4.uN_ser, hn]; exact L4.uPE_ser u _ (psL_even _ _ _ _ _ _) hc
  obtain ⟨e1, e2, _⟩ := h1 h0
  rw [L4.uP_ser u _ hc] at e1
  rw [L4.uN_ser, hn, Nat.add_sub_cancel_left] at e2
  subst h0 e1 e2
  exact ⟨da, rfl, hb, hdv⟩
theorem tSer_256 {w : World} {t : T9} {la : Option Addr} {ln : Nat} {os : List OpV} {da : Option Addr} {n c : Nat} (k : TOk w t la ln os da n c) (hc : L4.tChk t = 0) (pb : List Nat) : ∀ z ∈ L4.tSer t pb, z < 256 := by
  intro z hz
  rcases List.mem_append.1 hz with h | h
  · exact L4.tHd_256 t _ (L4.tChk_zero hc).1 (L4.tSum_le _ _) z h
  · rcases List.mem_append.1 h with h | h
    · exact put_256 t.os (by rw [← k.ov]; exact opts_256 k.oat) z h
    · exact k.d.d256 z h
theorem putT_ok (V U : Int) (x y : Nat → Nat) (t : T9) (la : Option Addr) (ln lc : Nat) (os : List OpV) (da : Option Addr) (n c : Nat) (w : World) (hw : TW w) (hlw : LW w) (k : TOk w t la ln os da n c) (hx : ∀ i, i < 16 → x i < 256) (hy : ∀ i, i < 16 → y i < 256) (hp : psOk V U x y = true) (hc : L4.tChk t = 0) :
    Calls Tryd.prog 8 #[.agg (ipCells V x), .agg (ipCells U y), .agg (tC t la ln lc da n c)] w fun e w' => ∃ g, e = .returned (.tuple #[.slice (some ⟨g, 0, none⟩) (20 + (I4.putO t.os).length + n : Nat) (20 + (I4.putO t.os).length + n : Nat), .int .i64 0]) ∧ Below w.heap.size w w' ∧ OwnB w' w.heap.size (.slice (some ⟨g, 0, none⟩) (20 + (I4.putO t.os).length + n) (20 + (I4.putO t.os).length + n)) (20 + (I4.putO t.os).length + n) (L4.tSer t (psL V U x y 6 ((20 + (I4.putO t.os).length + n : Nat) : Int))) ∧ DOk w' (L4.tSer t (psL V U x y 6 ((20 + (I4.putO t.os).length + n : Nat) : Int))) (some ⟨g, 0, none⟩) (20 + (I4.putO t.os).length + n) (20 + (I4.putO t.os).length + n) := by
  refine (putT_any V U x y t la ln lc os da n c w hw hlw k hx hy).mono ?_
  rintro e w' ⟨v, er, rfl, her, hb, hr⟩
  have h0 : er = 0 := by rw [her]; unfold L4.tPutE; rw [hp, if_pos rfl, hc]
  subst h0
  rcases hr with ⟨_, g, rfl, ho⟩ | ⟨h, _⟩
  · refine ⟨g, rfl, hb, ho, ?_, (owns_seg_at ho).1, tSer_256 k hc _, Nat.le_refl _, ?_, ?_⟩
    · rw [L4.tSer_len, k.d.dl]
    · have := (L4.tChk_zero hc).2.2; rw [k.d.dl] at this; omega
    · have := (L4.tChk_zero hc).2.2; rw [k.d.dl] at this; omega
  · exact absurd rfl h
theorem parseT_ok (V U : Int) (x y : Nat → Nat) (t : T9) (n ln : Nat) (a : Option Addr) (w : World) (hw : TW w) (hlw : LW w) (hx : ∀ i, i < 16 → x i < 256) (hy : ∀ i, i < 16 → y i < 256) (hp : psOk V U x y = true) (hc : L4.tChk t = 0) (hn : t.d.length = n) (hln : t.os.length = ln)
    (hd : DOk w (L4.tSer t (psL V U x y 6 ((20 + (I4.putO t.os).length + n : Nat) : Int))) a (20 + (I4.putO t.os).length + n) (20 + (I4.putO t.os).length + n)) :
    Calls Tryd.prog 19 #[.agg (ipCells V x), .agg (ipCells U y), .slice a (20 + (I4.putO t.os).length + n : Nat) (20 + (I4.putO t.os).length + n : Nat)] w fun e w' => ∃ ra rc ps dv, e = .returned (.tuple #[.agg (tC t ra ln rc dv n n), .int .i64 0]) ∧ Below w.heap.size w w' ∧ TOk w' t ra ln ps dv n n := by
  refine (parseT_u V U x y a _ _ _ w hw hlw hd hx hy).mono ?_
  rintro e w' ⟨er, v, ra, rn, rc, ps, dv, m, rfl, hb, her, hk, h1, _, _⟩
  have h0 : er = 0 := by rw [her, hp]; exact L4.tPE_ser t _ (psL_even _ _ _ _ _ _) hc
  obtain ⟨e1, e2, _⟩ := h1 h0
  rw [L4.tP_ser t _ hc] at e1
  rw [L4.tSer_len, L4.tH_ser, hn] at e2
  have e3 : m = n := by rw [e2]; unfold L4.tHs; omega
  subst h0 e1 e3
  have e4 : rn = ln := by
    have h1 := congrArg List.length hk.ov
    rw [hln] at h1
    simp only [vals, List.length_map] at h1
    rw [← h1, hk.ol]
  subst e4
  exact ⟨ra, rc, ps, dv, rfl, hb, hk⟩
end Go.Proofs.YtldallgafpmcjaaDoor
