/-
  The port: New.
-/
import Derived.Test.YtaicmpkgcppplaaPort12
import Derived.Test.YtaicmpkgcppplaaPInv5
namespace Go.Proofs.Ytaicmpkgcppplaa
open Go.RowKit

theorem Try.infoBuf : (Try.prog.info? 77).map (fun i => (i.zero, i.size, i.bytes)) = some (some (.agg #[.int .i64 0, .int .i64 0, .slice none 0 0]), 3, 40) := by kernel_rfl
/-- a port of which k buffers lie in the line of the free ones -/
def newK (rx tx pool size k : Nat) : PS := { size := size, rxn := rx, txn := tx, pool := pool, filled := 0, pl := fun i => if i < k then 1 else 0, ln := fun _ => 0, bb := fun _ => none, da := fun _ => List.replicate size 0, fr := List.range k, rx := [], tx := [] }
theorem newK_inv (rx tx pool size : Nat) : PInv (newK rx tx pool size pool) := by
  refine ⟨?_, ?_, ?_, ?_, ?_, ?_, ?_, ?_, ?_⟩
  · simp [newK, List.nodup_range]
  · simp [newK]
  · simp [newK]
  · intro i hi; simp [newK]
  · intro i hi
    have : i < pool := hi
    simp [newK, this]
  · intro i hi
    have : i < pool := hi
    simp [newK, this]
  · intro i hi
    have : i < pool := hi
    simp [newK, this]
  · intro i hi
    have : i < pool := hi
    simp [newK, this]
  · intro i hi; simp [newK]
theorem made3 (n j : Nat) (h : j < n * 3) : (madeCells (Value.cells (.agg #[.int .i64 0, .int .i64 0, .slice none 0 0])) (n * 3)).toList[j]? = some (if j % 3 = 2 then .slice none 0 0 else .int .i64 0) := by
  have h3 : j % 3 = 0 ∨ j % 3 = 1 ∨ j % 3 = 2 := by omega
  rw [Array.getElem?_toList, Array.getElem?_eq_getElem (by rw [size_madeCells]; exact h)]
  simp only [madeCells, Array.getElem_map, Array.getElem_range, Value.cells]
  rcases h3 with e | e | e <;> simp [e]
theorem line_new (w : World) (P o g n : Nat) (h0 : w.cell? ⟨P, o, none⟩ = some (.slice (some ⟨g, 0, none⟩) n n)) (h1 : w.cell? ⟨P, o + 1, none⟩ = some (.int .i64 0)) (h2 : w.cell? ⟨P, o + 2, none⟩ = some (.int .i64 0)) (fz : ∀ j, w.frozen? ⟨P, j, none⟩ = false)
    (row : w.ownsRow 0 3 1 (.slice (some ⟨g, 0, none⟩) n n) n (nV (List.replicate n 0))) (hp : 0 < n) (hb : n ≤ 100000) (ne : g ≠ P) : LineAt w P o g n [] 0 (List.replicate n 0) :=
  ⟨h0, h1, h2, fz, row, hp, hb, hp, Nat.zero_le _, fun k hk => by simp at hk, ne⟩
theorem port_new (w : World) (rx tx pool size gb gf gr gt : Nat) {base : Nat} (rb : w.ownsRow base 77 3 (.slice (some ⟨gb, 0, none⟩) pool pool) pool (madeCells (Value.cells (.agg #[.int .i64 0, .int .i64 0, .slice none 0 0])) (pool * 3)).toList)
    (rf : w.ownsRow base 3 1 (.slice (some ⟨gf, 0, none⟩) pool pool) pool (nV (List.replicate pool 0))) (rr : w.ownsRow base 3 1 (.slice (some ⟨gr, 0, none⟩) rx rx) rx (nV (List.replicate rx 0))) (rt : w.ownsRow base 3 1 (.slice (some ⟨gt, 0, none⟩) tx tx) tx (nV (List.replicate tx 0)))
    (h1 : 1 ≤ rx) (h2 : rx ≤ 4096) (h3 : 1 ≤ tx) (h4 : tx ≤ 4096) (h5 : 1 ≤ pool) (h6 : pool ≤ 8192) (h7 : 64 ≤ size) (h8 : size ≤ 65535) (nbf : gb ≠ gf) (nbr : gb ≠ gr) (nbt : gb ≠ gt) (nfr : gf ≠ gr) (nft : gf ≠ gt) (nrt : gr ≠ gt) :
    PortAt (w.alloc (.cells #[.slice (some ⟨gb, 0, none⟩) pool pool, .int .i64 size, .slice (some ⟨gf, 0, none⟩) pool pool, .int .i64 0, .int .i64 0, .slice (some ⟨gr, 0, none⟩) rx rx, .int .i64 0, .int .i64 0, .int .i64 0, .slice (some ⟨gt, 0, none⟩) tx tx, .int .i64 0, .int .i64 0] 74)) w.heap.size gb gf gr gt (newK rx tx pool size 0) := by
  have lb := (rb.lt gb rfl).2
  have lf := (rf.lt gf rfl).2
  have lr := (rr.lt gr rfl).2
  have lt := (rt.lt gt rfl).2
  obtain ⟨W, hW⟩ : ∃ W, W = w.alloc (.cells #[.slice (some ⟨gb, 0, none⟩) pool pool, .int .i64 size, .slice (some ⟨gf, 0, none⟩) pool pool, .int .i64 0, .int .i64 0, .slice (some ⟨gr, 0, none⟩) rx rx, .int .i64 0, .int .i64 0, .int .i64 0, .slice (some ⟨gt, 0, none⟩) tx tx, .int .i64 0, .int .i64 0] 74) := ⟨_, rfl⟩
  have cc : ∀ j, W.cell? ⟨w.heap.size, j, none⟩ = (#[.slice (some ⟨gb, 0, none⟩) pool pool, .int .i64 size, .slice (some ⟨gf, 0, none⟩) pool pool, .int .i64 0, .int .i64 0, .slice (some ⟨gr, 0, none⟩) rx rx, .int .i64 0, .int .i64 0, .int .i64 0, .slice (some ⟨gt, 0, none⟩) tx tx, .int .i64 0, .int .i64 0] : Array Value)[j]? := fun j => by rw [hW, World.cell?_alloc_at _ _ _ _ rfl]
  have fz : ∀ j, W.frozen? ⟨w.heap.size, j, none⟩ = false := fun j => by
    have hh := heap_alloc_new w (.cells #[.slice (some ⟨gb, 0, none⟩) pool pool, .int .i64 size, .slice (some ⟨gf, 0, none⟩) pool pool, .int .i64 0, .int .i64 0, .slice (some ⟨gr, 0, none⟩) rx rx, .int .i64 0, .int .i64 0, .int .i64 0, .slice (some ⟨gt, 0, none⟩) tx tx, .int .i64 0, .int .i64 0] 74)
    rw [← hW] at hh
    simp [World.frozen?, hh]
  have rb' : W.ownsRow 0 77 3 (.slice (some ⟨gb, 0, none⟩) pool pool) pool (madeCells (Value.cells (.agg #[.int .i64 0, .int .i64 0, .slice none 0 0])) (pool * 3)).toList := by rw [hW]; exact owns_mono (rb.alloc _) (Nat.zero_le _)
  have rf' : W.ownsRow 0 3 1 (.slice (some ⟨gf, 0, none⟩) pool pool) pool (nV (List.replicate pool 0)) := by rw [hW]; exact owns_mono (rf.alloc _) (Nat.zero_le _)
  have rr' : W.ownsRow 0 3 1 (.slice (some ⟨gr, 0, none⟩) rx rx) rx (nV (List.replicate rx 0)) := by rw [hW]; exact owns_mono (rr.alloc _) (Nat.zero_le _)
  have rt' : W.ownsRow 0 3 1 (.slice (some ⟨gt, 0, none⟩) tx tx) tx (nV (List.replicate tx 0)) := by rw [hW]; exact owns_mono (rt.alloc _) (Nat.zero_le _)
  rw [← hW]
  refine ⟨by rw [cc]; rfl, by rw [cc]; rfl, by rw [cc]; rfl, fz, ⟨0, _, line_new W _ 2 gf pool (by rw [cc]; rfl) (by rw [cc]; rfl) (by rw [cc]; rfl) fz rf' (by omega) (by omega) (by omega)⟩, ⟨0, _, line_new W _ 5 gr rx (by rw [cc]; rfl) (by rw [cc]; rfl) (by rw [cc]; rfl) fz rr' (by omega) (by omega) (by omega)⟩, ⟨0, _, line_new W _ 9 gt tx (by rw [cc]; rfl) (by rw [cc]; rfl) (by rw [cc]; rfl) fz rt' (by omega) (by omega) (by omega)⟩, fun i hi => ?_, fun i hi => ?_, fun i hi => ?_, fun j => rb'.frozenAt j, fun i b hi hb => by simp [newK] at hb, fun i hi _ => rfl, fun i hi => by simp [newK], fun i hi x hx => by simp [newK] at hx; omega, h7, h8, h5, h6, by omega, nbf, nbr, nbt, nfr, nft, nrt, fun i b hi hb => by simp [newK] at hb, fun i j b hi hj _ hb => by simp [newK] at hb⟩
  · have hi' : i < pool := hi
    rw [rb'.cellAt _ (by omega), made3 pool _ (by omega), if_neg (by omega)]
    simp [newK]
  · have hi' : i < pool := hi
    rw [rb'.cellAt _ (by omega), made3 pool _ (by omega), if_neg (by omega)]
    simp [newK]
  · have hi' : i < pool := hi
    rw [rb'.cellAt _ (by omega), made3 pool _ (by omega), if_pos (by omega)]
    simp [newK, PS.bv]
theorem newK_set (rx tx pool size k : Nat) : ({ newK rx tx pool size k with pl := updF (newK rx tx pool size k).pl k 1, fr := (newK rx tx pool size k).fr ++ [k] } : PS) = newK rx tx pool size (k + 1) := by
  simp only [newK, List.range_succ]
  congr 1
  funext i
  unfold updF
  by_cases h : i = k
  · subst h; simp
  · rw [if_neg h]
    show (if i < k then 1 else 0) = _
    by_cases h2 : i < k
    · rw [if_pos h2, if_pos (by omega)]
    · rw [if_neg h2, if_neg (by omega)]

set_option maxRecDepth 100000 in
set_option maxHeartbeats 3200000 in
theorem New_yes (w : World) (rx tx pool size : Nat) (h1 : 1 ≤ rx) (h2 : rx ≤ 4096) (h3 : 1 ≤ tx) (h4 : tx ≤ 4096) (h5 : 1 ≤ pool) (h6 : pool ≤ 8192) (h7 : 64 ≤ size) (h8 : size ≤ 65535) :
    Calls Try.prog 18 #[.int .i64 rx, .int .i64 tx, .int .i64 pool, .int .i64 size] w fun e w' => ∃ P gb gf gr gt, e = .returned (.tuple #[.pointer (some ⟨P, 0, none⟩), .int .i64 0]) ∧ PortAt w' P gb gf gr gt (newK rx tx pool size pool) ∧ Below w.heap.size w w' ∧ ∀ q, PB P gb gf gr gt (newK rx tx pool size pool) q → w.heap.size ≤ q := by
  obtain ⟨i0, hii, hz0, hz1, hz2⟩ := info_parts Try.infoBuf
  have d1 : decide ((1 : Int) ≤ (rx : Int) ∧ (rx : Int) ≤ 4096) = true := decide_eq_true (by omega)
  have d2 : decide ((1 : Int) ≤ (tx : Int) ∧ (tx : Int) ≤ 4096) = true := decide_eq_true (by omega)
  have d3 : decide ((1 : Int) ≤ (pool : Int) ∧ (pool : Int) ≤ 8192) = true := decide_eq_true (by omega)
  have d4 : decide ((64 : Int) ≤ (size : Int) ∧ (size : Int) ≤ 65535) = true := decide_eq_true (by omega)
  have q1 : Hid _ := within_any (rx : Int) 1 4096
  have q2 : Hid _ := within_any (tx : Int) 1 4096
  have q3 : Hid _ := within_any (pool : Int) 1 8192
  have q4 : Hid _ := within_any (size : Int) 64 65535
  rw [d1] at q1
  rw [d2] at q2
  rw [d3] at q3
  rw [d4] at q4
  clear d1 d2 d3 d4
  go_enter Try.func18, Try.ntmps18
  go_wp2_with fail
  refine Calls.mono (q1.out w) ?_
  rintro e w' ⟨rfl, rfl⟩
  go_wp2_with fail
  refine Calls.mono (q2.out w) ?_
  rintro e w' ⟨rfl, rfl⟩
  go_wp2_with fail
  refine Calls.mono (q3.out w) ?_
  rintro e w' ⟨rfl, rfl⟩
  go_wp2_with fail
  refine Calls.mono (q4.out w) ?_
  rintro e w' ⟨rfl, rfl⟩
  go_upto_region 3 with fail
  go_cut [10] (fun s wx => ∃ P gb gf gr gt, s = .pointer (some ⟨P, 0, none⟩) ∧ PortAt wx P gb gf gr gt (newK rx tx pool size 0) ∧ Below w.heap.size w wx ∧ w.heap.size ≤ P ∧ w.heap.size ≤ gb ∧ w.heap.size ≤ gf ∧ w.heap.size ≤ gr ∧ w.heap.size ≤ gt)
  case first =>
    refine Mix.start (by kernel_rfl) ?_
    obtain ⟨wA, hwA⟩ : ∃ wA, wA = w.drew := ⟨_, rfl⟩
    have bel : Below w.heap.size w wA := by rw [hwA]; exact (Below.refl _ _).drew
    rw [← hwA]
    clear hwA
    refine Mix.take [true, false, true, true, false, true, false, true] 7 (by kernel_rfl) (by kernel_rfl) (by decide) (by kernel_rfl) (fun K hK => ?_)
    simp only [Mix.pick]
    repeat (go_big_quiet_step (fail))
    refine wpQuiet_nil (hK _ ?_)
    clear hK K
    refine Mix.pair [false, true] [false, false, false, false, true] 6 1 4 _ _ rfl rfl rfl rfl (by kernel_rfl) (by kernel_rfl) (fun K hK => ?_) (fun K hK => ?_)
    · simp only [Mix.pick]
      go_wp2_with (first | (at_make; refine wpList_make_full _ rfl _ _ 72 rfl w.heap.size 77 i0 (.agg #[.int .i64 0, .int .i64 0, .slice none 0 0]) 3 Try.underlying72 hii hz0 hz1 .i64 .i64 _ _ pool rfl rfl rfl rfl (by rw [hz2]; omega) (by unfold maxLen; omega) bel.size ?_))
      intro wb rb hgr
      obtain ⟨gb, hgb⟩ : ∃ gb, gb = wA.heap.size := ⟨_, rfl⟩
      rw [← hgb] at rb ⊢
      have ub : w.heap.size ≤ gb := by rw [hgb]; exact bel.size
      replace bel := bel.grown hgr bel.size (by intro k hk; cases hk)
      clear hgr hgb
      go_wp2
      refine ⟨rfl, hK _ _ ?_⟩
      clear hK K
      refine Mix.one [false, false, false, false, true] 5 4 _ rfl rfl (by kernel_rfl) (by kernel_rfl) (fun K hK => ?_)
      simp only [Mix.pick]
      have lb : gb < wb.heap.size := (rb.lt gb rfl).2
      go_wp2_with fail
      refine (newLine_any wb pool (by omega)).mono ?_
      rintro e wbf ⟨gf, rfl, rf, hb⟩
      have lo : wb.heap.size ≤ gf := (rf.lt gf rfl).1
      have uf : w.heap.size ≤ gf := Nat.le_trans bel.size lo
      have nbf : gb ≠ gf := by omega
      replace rb := (Ch.ofBelow (S := fun _ => False) hb).owns rb (fun _ _ => id)
      replace rf := owns_mono rf bel.size
      replace bel := bel.trans (hb.mono bel.size)
      clear hb lo lb
      go_wp2
      refine ⟨rfl, hK _ _ ?_⟩
      clear hK K
      refine Mix.one [false, false, false, false, false, false, true] 4 6 _ rfl rfl (by kernel_rfl) (by kernel_rfl) (fun K hK => ?_)
      simp only [Mix.pick]
      have lb : gb < wbf.heap.size := (rb.lt gb rfl).2
      have lf : gf < wbf.heap.size := (rf.lt gf rfl).2
      go_wp2_with fail
      refine (newLine_any wbf rx (by omega)).mono ?_
      rintro e wbfr ⟨gr, rfl, rr, hb⟩
      have lo : wbf.heap.size ≤ gr := (rr.lt gr rfl).1
      have ur : w.heap.size ≤ gr := Nat.le_trans bel.size lo
      have nbr : gb ≠ gr := by omega
      have nfr : gf ≠ gr := by omega
      replace rb := (Ch.ofBelow (S := fun _ => False) hb).owns rb (fun _ _ => id)
      replace rf := (Ch.ofBelow (S := fun _ => False) hb).owns rf (fun _ _ => id)
      replace rr := owns_mono rr bel.size
      replace bel := bel.trans (hb.mono bel.size)
      clear hb lo lb lf
      go_wp2
      refine ⟨rfl, hK _ _ ?_⟩
      clear hK K
      refine Mix.one [false, false, false, false, false, false, false, false, true] 3 8 _ rfl rfl (by kernel_rfl) (by kernel_rfl) (fun K hK => ?_)
      simp only [Mix.pick]
      have lb : gb < wbfr.heap.size := (rb.lt gb rfl).2
      have lf : gf < wbfr.heap.size := (rf.lt gf rfl).2
      have lr : gr < wbfr.heap.size := (rr.lt gr rfl).2
      go_wp2_with fail
      refine (newLine_any wbfr tx (by omega)).mono ?_
      rintro e wbfrt ⟨gt, rfl, rt, hb⟩
      have lo : wbfr.heap.size ≤ gt := (rt.lt gt rfl).1
      have ut : w.heap.size ≤ gt := Nat.le_trans bel.size lo
      have nbt : gb ≠ gt := by omega
      have nft : gf ≠ gt := by omega
      have nrt : gr ≠ gt := by omega
      replace rb := (Ch.ofBelow (S := fun _ => False) hb).owns rb (fun _ _ => id)
      replace rf := (Ch.ofBelow (S := fun _ => False) hb).owns rf (fun _ _ => id)
      replace rr := (Ch.ofBelow (S := fun _ => False) hb).owns rr (fun _ _ => id)
      replace rt := owns_mono rt bel.size
      replace bel := bel.trans (hb.mono bel.size)
      clear hb lo lb lf lr
      go_wp2
      refine ⟨rfl, hK _ _ ?_⟩
      clear hK K
      refine Mix.take [false, false, false, false, false, false, false, false, false, true] 2 (by kernel_rfl) (by kernel_rfl) (by decide) (by kernel_rfl) (fun K hK => ?_)
      simp only [Mix.pick]
      repeat (go_big_quiet_step (fail))
      refine wpQuiet_nil (hK _ ?_)
      clear hK K
      refine Mix.one [false, false, false, false, false, false, false, false, false, false, true] 1 10 _ rfl rfl (by kernel_rfl) (by kernel_rfl) (fun K hK => ?_)
      simp only [Mix.pick]
      go_wp2
      refine ⟨rfl, hK _ _ ?_⟩
      clear hK K
      refine Mix.take [false, false, false, false, false, false, false, false, false, false, false, true] 0 (by kernel_rfl) (by kernel_rfl) (by decide) (by kernel_rfl) (fun K hK => ?_)
      simp only [Mix.pick]
      repeat (go_big_quiet_step (fail))
      refine wpQuiet_nil (hK _ ?_)
      clear hK K
      refine Mix.done (by kernel_rfl) ?_
      first | go_meet | (go_wp2; go_meet)
      exact ⟨_, gb, gf, gr, gt, rfl, port_new _ rx tx pool size gb gf gr gt rb rf rr rt (by omega) (by omega) (by omega) (by omega) (by omega) (by omega) (by omega) (by omega) nbf nbr nbt nfr nft nrt, bel.alloc bel.size _, bel.size, ub, uf, ur, ut⟩
    · simp only [Mix.pick]
      go_wp2_with fail
      refine (newLine_any wA pool (by omega)).mono ?_
      rintro e wf ⟨gf, rfl, rf, hb⟩
      have lo : wA.heap.size ≤ gf := (rf.lt gf rfl).1
      have uf : w.heap.size ≤ gf := Nat.le_trans bel.size lo
      replace rf := owns_mono rf bel.size
      replace bel := bel.trans (hb.mono bel.size)
      clear hb lo
      go_wp2
      refine ⟨rfl, hK _ _ ?_⟩
      clear hK K
      refine Mix.pair [false, true] [false, false, false, false, false, false, true] 5 1 6 _ _ rfl rfl rfl rfl (by kernel_rfl) (by kernel_rfl) (fun K hK => ?_) (fun K hK => ?_)
      · simp only [Mix.pick]
        have lf : gf < wf.heap.size := (rf.lt gf rfl).2
        go_wp2_with (first | (at_make; refine wpList_make_full _ rfl _ _ 72 rfl w.heap.size 77 i0 (.agg #[.int .i64 0, .int .i64 0, .slice none 0 0]) 3 Try.underlying72 hii hz0 hz1 .i64 .i64 _ _ pool rfl rfl rfl rfl (by rw [hz2]; omega) (by unfold maxLen; omega) bel.size ?_))
        intro wbf rb hgr
        obtain ⟨gb, hgb⟩ : ∃ gb, gb = wf.heap.size := ⟨_, rfl⟩
        rw [← hgb] at rb ⊢
        have ub : w.heap.size ≤ gb := by rw [hgb]; exact bel.size
        have nbf : gb ≠ gf := by omega
        replace rf := (Ch.ofGrown hgr).owns rf (fun _ _ h => by cases h)
        replace bel := bel.grown hgr bel.size (by intro k hk; cases hk)
        clear hgr hgb lf
        go_wp2
        refine ⟨rfl, hK _ _ ?_⟩
        clear hK K
        refine Mix.one [false, false, false, false, false, false, true] 4 6 _ rfl rfl (by kernel_rfl) (by kernel_rfl) (fun K hK => ?_)
        simp only [Mix.pick]
        have lb : gb < wbf.heap.size := (rb.lt gb rfl).2
        have lf : gf < wbf.heap.size := (rf.lt gf rfl).2
        go_wp2_with fail
        refine (newLine_any wbf rx (by omega)).mono ?_
        rintro e wbfr ⟨gr, rfl, rr, hb⟩
        have lo : wbf.heap.size ≤ gr := (rr.lt gr rfl).1
        have ur : w.heap.size ≤ gr := Nat.le_trans bel.size lo
        have nbr : gb ≠ gr := by omega
        have nfr : gf ≠ gr := by omega
        replace rb := (Ch.ofBelow (S := fun _ => False) hb).owns rb (fun _ _ => id)
        replace rf := (Ch.ofBelow (S := fun _ => False) hb).owns rf (fun _ _ => id)
        replace rr := owns_mono rr bel.size
        replace bel := bel.trans (hb.mono bel.size)
        clear hb lo lb lf
        go_wp2
        refine ⟨rfl, hK _ _ ?_⟩
        clear hK K
        refine Mix.one [false, false, false, false, false, false, false, false, true] 3 8 _ rfl rfl (by kernel_rfl) (by kernel_rfl) (fun K hK => ?_)
        simp only [Mix.pick]
        have lb : gb < wbfr.heap.size := (rb.lt gb rfl).2
        have lf : gf < wbfr.heap.size := (rf.lt gf rfl).2
        have lr : gr < wbfr.heap.size := (rr.lt gr rfl).2
        go_wp2_with fail
        refine (newLine_any wbfr tx (by omega)).mono ?_
        rintro e wbfrt ⟨gt, rfl, rt, hb⟩
        have lo : wbfr.heap.size ≤ gt := (rt.lt gt rfl).1
        have ut : w.heap.size ≤ gt := Nat.le_trans bel.size lo
        have nbt : gb ≠ gt := by omega
        have nft : gf ≠ gt := by omega
        have nrt : gr ≠ gt := by omega
        replace rb := (Ch.ofBelow (S := fun _ => False) hb).owns rb (fun _ _ => id)
        replace rf := (Ch.ofBelow (S := fun _ => False) hb).owns rf (fun _ _ => id)
        replace rr := (Ch.ofBelow (S := fun _ => False) hb).owns rr (fun _ _ => id)
        replace rt := owns_mono rt bel.size
        replace bel := bel.trans (hb.mono bel.size)
        clear hb lo lb lf lr
        go_wp2
        refine ⟨rfl, hK _ _ ?_⟩
        clear hK K
        refine Mix.take [false, false, false, false, false, false, false, false, false, true] 2 (by kernel_rfl) (by kernel_rfl) (by decide) (by kernel_rfl) (fun K hK => ?_)
        simp only [Mix.pick]
        repeat (go_big_quiet_step (fail))
        refine wpQuiet_nil (hK _ ?_)
        clear hK K
        refine Mix.one [false, false, false, false, false, false, false, false, false, false, true] 1 10 _ rfl rfl (by kernel_rfl) (by kernel_rfl) (fun K hK => ?_)
        simp only [Mix.pick]
        go_wp2
        refine ⟨rfl, hK _ _ ?_⟩
        clear hK K
        refine Mix.take [false, false, false, false, false, false, false, false, false, false, false, true] 0 (by kernel_rfl) (by kernel_rfl) (by decide) (by kernel_rfl) (fun K hK => ?_)
        simp only [Mix.pick]
        repeat (go_big_quiet_step (fail))
        refine wpQuiet_nil (hK _ ?_)
        clear hK K
        refine Mix.done (by kernel_rfl) ?_
        first | go_meet | (go_wp2; go_meet)
        exact ⟨_, gb, gf, gr, gt, rfl, port_new _ rx tx pool size gb gf gr gt rb rf rr rt (by omega) (by omega) (by omega) (by omega) (by omega) (by omega) (by omega) (by omega) nbf nbr nbt nfr nft nrt, bel.alloc bel.size _, bel.size, ub, uf, ur, ut⟩
      · simp only [Mix.pick]
        have lf : gf < wf.heap.size := (rf.lt gf rfl).2
        go_wp2_with fail
        refine (newLine_any wf rx (by omega)).mono ?_
        rintro e wfr ⟨gr, rfl, rr, hb⟩
        have lo : wf.heap.size ≤ gr := (rr.lt gr rfl).1
        have ur : w.heap.size ≤ gr := Nat.le_trans bel.size lo
        have nfr : gf ≠ gr := by omega
        replace rf := (Ch.ofBelow (S := fun _ => False) hb).owns rf (fun _ _ => id)
        replace rr := owns_mono rr bel.size
        replace bel := bel.trans (hb.mono bel.size)
        clear hb lo lf
        go_wp2
        refine ⟨rfl, hK _ _ ?_⟩
        clear hK K
        refine Mix.pair [false, true] [false, false, false, false, false, false, false, false, true] 4 1 8 _ _ rfl rfl rfl rfl (by kernel_rfl) (by kernel_rfl) (fun K hK => ?_) (fun K hK => ?_)
        · simp only [Mix.pick]
          have lf : gf < wfr.heap.size := (rf.lt gf rfl).2
          have lr : gr < wfr.heap.size := (rr.lt gr rfl).2
          go_wp2_with (first | (at_make; refine wpList_make_full _ rfl _ _ 72 rfl w.heap.size 77 i0 (.agg #[.int .i64 0, .int .i64 0, .slice none 0 0]) 3 Try.underlying72 hii hz0 hz1 .i64 .i64 _ _ pool rfl rfl rfl rfl (by rw [hz2]; omega) (by unfold maxLen; omega) bel.size ?_))
          intro wbfr rb hgr
          obtain ⟨gb, hgb⟩ : ∃ gb, gb = wfr.heap.size := ⟨_, rfl⟩
          rw [← hgb] at rb ⊢
          have ub : w.heap.size ≤ gb := by rw [hgb]; exact bel.size
          have nbf : gb ≠ gf := by omega
          have nbr : gb ≠ gr := by omega
          replace rf := (Ch.ofGrown hgr).owns rf (fun _ _ h => by cases h)
          replace rr := (Ch.ofGrown hgr).owns rr (fun _ _ h => by cases h)
          replace bel := bel.grown hgr bel.size (by intro k hk; cases hk)
          clear hgr hgb lf lr
          go_wp2
          refine ⟨rfl, hK _ _ ?_⟩
          clear hK K
          refine Mix.one [false, false, false, false, false, false, false, false, true] 3 8 _ rfl rfl (by kernel_rfl) (by kernel_rfl) (fun K hK => ?_)
          simp only [Mix.pick]
          have lb : gb < wbfr.heap.size := (rb.lt gb rfl).2
          have lf : gf < wbfr.heap.size := (rf.lt gf rfl).2
          have lr : gr < wbfr.heap.size := (rr.lt gr rfl).2
          go_wp2_with fail
          refine (newLine_any wbfr tx (by omega)).mono ?_
          rintro e wbfrt ⟨gt, rfl, rt, hb⟩
          have lo : wbfr.heap.size ≤ gt := (rt.lt gt rfl).1
          have ut : w.heap.size ≤ gt := Nat.le_trans bel.size lo
          have nbt : gb ≠ gt := by omega
          have nft : gf ≠ gt := by omega
          have nrt : gr ≠ gt := by omega
          replace rb := (Ch.ofBelow (S := fun _ => False) hb).owns rb (fun _ _ => id)
          replace rf := (Ch.ofBelow (S := fun _ => False) hb).owns rf (fun _ _ => id)
          replace rr := (Ch.ofBelow (S := fun _ => False) hb).owns rr (fun _ _ => id)
          replace rt := owns_mono rt bel.size
          replace bel := bel.trans (hb.mono bel.size)
          clear hb lo lb lf lr
          go_wp2
          refine ⟨rfl, hK _ _ ?_⟩
          clear hK K
          refine Mix.take [false, false, false, false, false, false, false, false, false, true] 2 (by kernel_rfl) (by kernel_rfl) (by decide) (by kernel_rfl) (fun K hK => ?_)
          simp only [Mix.pick]
          repeat (go_big_quiet_step (fail))
          refine wpQuiet_nil (hK _ ?_)
          clear hK K
          refine Mix.one [false, false, false, false, false, false, false, false, false, false, true] 1 10 _ rfl rfl (by kernel_rfl) (by kernel_rfl) (fun K hK => ?_)
          simp only [Mix.pick]
          go_wp2
          refine ⟨rfl, hK _ _ ?_⟩
          clear hK K
          refine Mix.take [false, false, false, false, false, false, false, false, false, false, false, true] 0 (by kernel_rfl) (by kernel_rfl) (by decide) (by kernel_rfl) (fun K hK => ?_)
          simp only [Mix.pick]
          repeat (go_big_quiet_step (fail))
          refine wpQuiet_nil (hK _ ?_)
          clear hK K
          refine Mix.done (by kernel_rfl) ?_
          first | go_meet | (go_wp2; go_meet)
          exact ⟨_, gb, gf, gr, gt, rfl, port_new _ rx tx pool size gb gf gr gt rb rf rr rt (by omega) (by omega) (by omega) (by omega) (by omega) (by omega) (by omega) (by omega) nbf nbr nbt nfr nft nrt, bel.alloc bel.size _, bel.size, ub, uf, ur, ut⟩
        · simp only [Mix.pick]
          have lf : gf < wfr.heap.size := (rf.lt gf rfl).2
          have lr : gr < wfr.heap.size := (rr.lt gr rfl).2
          go_wp2_with fail
          refine (newLine_any wfr tx (by omega)).mono ?_
          rintro e wfrt ⟨gt, rfl, rt, hb⟩
          have lo : wfr.heap.size ≤ gt := (rt.lt gt rfl).1
          have ut : w.heap.size ≤ gt := Nat.le_trans bel.size lo
          have nft : gf ≠ gt := by omega
          have nrt : gr ≠ gt := by omega
          replace rf := (Ch.ofBelow (S := fun _ => False) hb).owns rf (fun _ _ => id)
          replace rr := (Ch.ofBelow (S := fun _ => False) hb).owns rr (fun _ _ => id)
          replace rt := owns_mono rt bel.size
          replace bel := bel.trans (hb.mono bel.size)
          clear hb lo lf lr
          go_wp2
          refine ⟨rfl, hK _ _ ?_⟩
          clear hK K
          refine Mix.one [false, true] 3 1 _ rfl rfl (by kernel_rfl) (by kernel_rfl) (fun K hK => ?_)
          simp only [Mix.pick]
          have lf : gf < wfrt.heap.size := (rf.lt gf rfl).2
          have lr : gr < wfrt.heap.size := (rr.lt gr rfl).2
          have lt : gt < wfrt.heap.size := (rt.lt gt rfl).2
          go_wp2_with (first | (at_make; refine wpList_make_full _ rfl _ _ 72 rfl w.heap.size 77 i0 (.agg #[.int .i64 0, .int .i64 0, .slice none 0 0]) 3 Try.underlying72 hii hz0 hz1 .i64 .i64 _ _ pool rfl rfl rfl rfl (by rw [hz2]; omega) (by unfold maxLen; omega) bel.size ?_))
          intro wbfrt rb hgr
          obtain ⟨gb, hgb⟩ : ∃ gb, gb = wfrt.heap.size := ⟨_, rfl⟩
          rw [← hgb] at rb ⊢
          have ub : w.heap.size ≤ gb := by rw [hgb]; exact bel.size
          have nbf : gb ≠ gf := by omega
          have nbr : gb ≠ gr := by omega
          have nbt : gb ≠ gt := by omega
          replace rf := (Ch.ofGrown hgr).owns rf (fun _ _ h => by cases h)
          replace rr := (Ch.ofGrown hgr).owns rr (fun _ _ h => by cases h)
          replace rt := (Ch.ofGrown hgr).owns rt (fun _ _ h => by cases h)
          replace bel := bel.grown hgr bel.size (by intro k hk; cases hk)
          clear hgr hgb lf lr lt
          go_wp2
          refine ⟨rfl, hK _ _ ?_⟩
          clear hK K
          refine Mix.take [false, false, false, false, false, false, false, false, false, true] 2 (by kernel_rfl) (by kernel_rfl) (by decide) (by kernel_rfl) (fun K hK => ?_)
          simp only [Mix.pick]
          repeat (go_big_quiet_step (fail))
          refine wpQuiet_nil (hK _ ?_)
          clear hK K
          refine Mix.one [false, false, false, false, false, false, false, false, false, false, true] 1 10 _ rfl rfl (by kernel_rfl) (by kernel_rfl) (fun K hK => ?_)
          simp only [Mix.pick]
          go_wp2
          refine ⟨rfl, hK _ _ ?_⟩
          clear hK K
          refine Mix.take [false, false, false, false, false, false, false, false, false, false, false, true] 0 (by kernel_rfl) (by kernel_rfl) (by decide) (by kernel_rfl) (fun K hK => ?_)
          simp only [Mix.pick]
          repeat (go_big_quiet_step (fail))
          refine wpQuiet_nil (hK _ ?_)
          clear hK K
          refine Mix.done (by kernel_rfl) ?_
          first | go_meet | (go_wp2; go_meet)
          exact ⟨_, gb, gf, gr, gt, rfl, port_new _ rx tx pool size gb gf gr gt rb rf rr rt (by omega) (by omega) (by omega) (by omega) (by omega) (by omega) (by omega) (by omega) nbf nbr nbt nfr nft nrt, bel.alloc bel.size _, bel.size, ub, uf, ur, ut⟩
  case rest =>
  obtain ⟨P, gb, gf, gr, gt, rfl, hP, hbel, uP, ub, uf, ur, ut⟩ := hcut
  obtain ⟨wz, rfl⟩ : ∃ wz, wz = wc := ⟨_, rfl⟩
  clear q1 q2 q3 q4
  go_wp2
  go_loopw [42] (fun ix wr => ∃ k : Nat, k ≤ pool ∧ ix = .int .i64 k ∧ PortAt wr P gb gf gr gt (newK rx tx pool size k) ∧ Below w.heap.size w wr) (fun ix _ => pool - (intOf ix).toNat)
  case atStart => exact ⟨0, Nat.zero_le _, rfl, hP, hbel⟩
  case round =>
    obtain ⟨k, hk, rfl, hp, hb⟩ := hrel
    clear hP hbel
    by_cases hlt : k < pool
    · have hp1 := hp.setPl k 1 hlt
      have hB := hp.cB
      have hc := hp.b0 k hlt
      have hfz := hp.bz (k * 3)
      have hB' : wr.cell? ⟨P, 0, none⟩ = some (.slice (some ⟨gb, 0, none⟩) pool pool) := hB
      have hc' : wr.cell? ⟨gb, k * 3, none⟩ = some (.int .i64 0) := by simpa [newK] using hc
      obtain ⟨f, S, l⟩ := hp1.lf
      have HJ : Hid _ := join_line (wr.setCell ⟨gb, k * 3, none⟩ (.int .i64 (1 : Nat))) P 2 gf pool k (List.range k) f S l (by simpa using hlt)
      have HP : Hid _ := hp1
      have HS : Hid _ := newK_set rx tx pool size k
      clear hp hp1 l hB hc
      go_wp2_with fail
      refine Calls.mono HJ.out ?_
      rintro e w' ⟨rfl, ⟨S', l'⟩, kk, ho⟩
      have HF := HP.out.freeSet kk l' ho
      have HF' : PortAt w' P gb gf gr gt (newK rx tx pool size (k + 1)) := by
        have e := HS.out
        rw [← e]
        exact HF
      have HB' : Below w.heap.size w w' := by
        have c1 : Ch (fun q => q = P ∨ q = gb ∨ q = gf) wr w' := ((Ch.refl (fun q => q = P ∨ q = gb ∨ q = gf) wr).set ⟨gb, k * 3, none⟩ (.int .i64 (1 : Nat)) (.inr (.inl rfl))).trans kk (fun _ _ e => e.elim .inl (fun e => .inr (.inr e)))
        exact hb.trans (c1.below (fun x e => by rcases e with e | e | e <;> omega) hb.size)
      clear HJ HP HS HF l' kk ho hb hc' hB' hfz
      go_wp2
      go_roundw
      case rel => exact ⟨k + 1, by omega, by go_num, HF', HB'⟩
      case measure => simp [intOf]; omega
    · obtain rfl : k = pool := by omega
      go_wp2
      go_ret2
      refine ⟨P, gb, gf, gr, gt, rfl, hp, hb, fun q hq => ?_⟩
      rcases hq with rfl | rfl | rfl | rfl | rfl | ⟨i, hi, hbb⟩
      · exact uP
      · exact ub
      · exact uf
      · exact ur
      · exact ut
      · simp [newK] at hbb
end Go.Proofs.Ytaicmpkgcppplaa
