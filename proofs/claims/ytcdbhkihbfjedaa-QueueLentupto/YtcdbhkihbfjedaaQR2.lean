/-
  Layer 18: the document's own answer: held, ready, some, Len, Bytes.
-/
import Derived.Test.YtcdbhkihbfjedaaQR1
namespace Go.Proofs.Ytcdbhkihbfjedaa
open Go.RowKit

def csR (rs : List RL) : List CL := rs.map RL.c
theorem csR_len (rs : List RL) : (csR rs).length = rs.length := List.length_map ..
theorem csR_at {rs : List RL} {i : Nat} {r : RL} (h : rs[i]? = some r) : cAt (csR rs) i = r.c := cAt_some (by unfold csR; rw [List.getElem?_map, h]; rfl)
theorem csR_set (rs : List RL) (i : Nat) (r : RL) : csR (rs.set i r) = (csR rs).set i r.c := by unfold csR; rw [List.map_set]
theorem RIt.head {w : World} {r : RL} {x : Int × Int} {L : List (Int × Int)} (h : RIt w r) (hL : r.c.L = x :: L) : ∃ b off, r.la = some ⟨b, off, none⟩ ∧ w.cell? ⟨b, off, none⟩ = some (.int .i64 x.2) ∧ w.cell? ⟨b, off + 1, none⟩ = some (.int .i64 x.1) := by
  obtain ⟨b, off, ha, hr⟩ := h.1.rng riL_len 0 x (by rw [hL]; rfl)
  rw [Nat.zero_mul, Nat.add_zero] at hr
  exact ⟨b, off, ha, hr 0 _ rfl, hr 1 _ rfl⟩
/-- the i-th line, where it lies -/
theorem RS.line {w : World} {v : RQ} {rs : List RL} (h : RS w v rs) {i : Nat} {r : RL} (hi : rs[i]? = some r) : ∃ b off, v.la = some ⟨b, off, none⟩ ∧ w.rangeAt b (off + i * 8) (rlA r).toList := by
  obtain ⟨b, off, ha, hr⟩ := h.lk.rng rlL_len i r hi
  exact ⟨b, off, ha, hr⟩
set_option maxHeartbeats 1600000 in
set_option maxRecDepth 100000 in
theorem heldR_any (r : RL) (w : World) (h : RIt w r) (x : Int × Int) (L : List (Int × Int)) (hL : r.c.L = x :: L) : Calls Try.prog 75 #[.agg (rlA r)] w fun e w' => e = .returned (.bool r.c.held) ∧ Below w.heap.size w w' := by
  obtain ⟨g, off, hla, hc0, hc1⟩ := h.head hL
  have HH : Hid (RIt w r ∧ r.c.L = x :: L ∧ r.la = some ⟨g, off, none⟩) := ⟨h, hL, hla⟩
  obtain ⟨n, hn⟩ : ∃ n, n = r.c.L.length := ⟨_, rfl⟩
  have hnp : 0 < n := by rw [hn, hL]; simp
  have k1 : (0 : Int) < (n : Int) := by omega
  have HNE : Hid (r.c.L.length = n) := hn.symm
  clear h hL hla hn hc1
  go_enter Try.func75, Try.ntmps75
  go_upto_region 1 with (first | (refine wpList_box_rlv (.tmp 0) rfl r rfl rfl ?_; intro B W hB hA bB))
  have HZ : Hid (Below w.heap.size w W) := bB
  have c3 : W.cell? ⟨B, 3, none⟩ = some (.int .i64 r.c.li.ra) := hA.cell 3
  have c7 : W.cell? ⟨B, 7, none⟩ = some (.int .i64 r.c.tk) := hA.cell 7
  have c5 : W.cell? ⟨B, 5, none⟩ = some (.slice (some ⟨g, off, none⟩) n r.lc) := (hA.cell 5).trans (by rw [← HNE.out, ← HH.out.2.2]; rfl)
  have ci : W.cell? ⟨g, off, none⟩ = some (.int .i64 x.2) := (bB.cell (p := ⟨g, off, none⟩) (World.block_lt_of_cell? w _ hc0)).trans hc0
  clear hB hA bB hc0
  by_cases hr : 0 < r.c.li.ra
  · have q1 : decide (0 < r.c.li.ra) = true := decide_eq_true hr
    have HE : Hid (r.c.held = decide (r.c.tk < x.2)) := held_hd HH.out.2.1 hr
    clear hr
    go_wp2
    go_region
    go_wp2
    go_ret
    exact ⟨by rw [HE.out]; rfl, bthen HZ.out (Below.refl _ _).drew⟩
  · have q1 : decide (0 < r.c.li.ra) = false := decide_eq_false hr
    have HE : Hid (r.c.held = false) := held_no hr
    clear hr
    go_wp2
    go_region
    go_wp2
    go_ret
    exact ⟨by rw [HE.out]; rfl, bthen HZ.out (Below.refl _ _).drew⟩
set_option maxHeartbeats 1600000 in
set_option maxRecDepth 100000 in
theorem readyR_any (r : RL) (w : World) (h : RIt w r) : Calls Try.prog 69 #[.agg (rlA r)] w fun e w' => e = .returned (.bool r.c.rdy) ∧ Below w.heap.size w w' := by
  have HH : Hid (RIt w r) := h
  obtain ⟨n, hn⟩ : ∃ n, n = r.c.L.length := ⟨_, rfl⟩
  have HNE : Hid (r.c.L.length = n) := hn.symm
  clear h hn
  go_enter Try.func69, Try.ntmps69
  go_upto_region 1 with (first | (refine wpList_box_rlv (.tmp 0) rfl r rfl rfl ?_; intro B W hB hA bB))
  have HZ : Hid (Below w.heap.size w W ∧ RlvAt W B r ∧ RIt W r) := ⟨bB, hA, HH.out.below bB⟩
  have c5 : W.cell? ⟨B, 5, none⟩ = some (.slice r.la n r.lc) := (hA.cell 5).trans (by rw [← HNE.out]; rfl)
  clear hB hA bB
  cases hL : r.c.L with
  | nil =>
    have hn0 : n = 0 := by rw [← HNE.out, hL]; rfl
    have HE : Hid (r.c.rdy = false) := by show _ = _; unfold CL.rdy wtB; rw [hL]; rfl
    have q1 : decide (0 < n) = false := by rw [hn0]; rfl
    have q2 : decide ((0 : Int) < (n : Int)) = false := by rw [hn0]; rfl
    clear hL hn0
    go_wp2_with fail
    go_ret
    exact ⟨by rw [HE.out]; rfl, HZ.out.1⟩
  | cons x L =>
    have hn0 : 0 < n := by rw [← HNE.out, hL]; simp
    have q1 : decide (0 < n) = true := decide_eq_true hn0
    have q2 : decide ((0 : Int) < (n : Int)) = true := decide_eq_true (by omega)
    have HE : Hid (r.c.rdy = !r.c.held) := by show _ = _; unfold CL.rdy wtB; rw [hL]; rfl
    have QH : Hid _ := heldR_any r W HZ.out.2.2 x L hL
    obtain ⟨hb, hhb⟩ : ∃ hb, r.c.held = hb := ⟨_, rfl⟩
    rw [hhb] at HE QH
    clear hL hhb hn0
    go_wp2_with (first | (refine wpList_load_rlv (.tmp 1) rfl B r rfl HZ.out.2.1 rfl ?_))
    refine Calls.mono QH.out ?_
    rintro e2 w2 ⟨rfl, b2⟩
    have HZ2 : Hid (Below w.heap.size w w2) := bthen HZ.out.1 b2
    clear b2 QH
    go_wp2_with fail
    go_ret
    exact ⟨by rw [HE.out]; rfl, HZ2.out⟩
set_option maxHeartbeats 1600000 in
set_option maxRecDepth 100000 in
theorem some_any (v : RQ) (rs : List RL) (w : World) (h : RS w v rs) : Calls Try.prog 68 #[.agg (rqA v)] w fun e w' => e = .returned (.bool (anyR (csR rs))) ∧ Below w.heap.size w w' := by
  obtain ⟨n, hn⟩ : ∃ n, n = v.n := ⟨_, rfl⟩
  have HH : Hid (RS w v rs ∧ v.n = n ∧ n = rs.length ∧ (csR rs).length = n) := ⟨h, hn.symm, by rw [hn]; exact h.n, by rw [csR_len, hn]; exact h.n.symm⟩
  have hn8 : n ≤ 8 := by have := h.len; have := h.n; omega
  clear h hn
  go_enter Try.func68, Try.ntmps68
  go_upto_region 1 with (first | (refine wpList_box_rqv (.tmp 0) rfl v rfl rfl ?_; intro B W hB hA bB))
  have HA : Hid (RqvAt W B v ∧ Below w.heap.size w W) := ⟨hA, bB⟩
  clear hB hA bB
  go_wp2
  go_loopw [3] (fun iv wr => ∃ k : Nat, k ≤ n ∧ iv = .int .i64 (k : Nat) ∧ Hid (anyR ((csR rs).take k) = false ∧ RS wr v rs ∧ RqvAt wr B v ∧ Below w.heap.size w wr)) (fun iv _ => n - (intOf iv).toNat)
  case atStart => exact ⟨0, Nat.zero_le _, rfl, rfl, HH.out.1.below HA.out.2, HA.out.1, HA.out.2⟩
  case round =>
    obtain ⟨k, hk, rfl, HR⟩ := hrel
    have c0 : wr.cell? ⟨B, 0, none⟩ = some (.slice v.la n v.lc) := (HR.out.2.2.1.cell 0).trans (by rw [← HH.out.2.1]; rfl)
    by_cases hkn : k < n
    · have p1 : decide ((k : Int) < (n : Int)) = true := decide_eq_true (by omega)
      have p2 : decide (k < n) = true := decide_eq_true hkn
      have k0 : (0 : Int) ≤ (k : Int) := by omega
      have k1 : (k : Int) < (n : Int) := by omega
      have k2 : ((k : Int)).toNat = k := by omega
      have w1 : IntKind.i64.wrap ((k : Int) + 1) = (k : Int) + 1 := i64_s _ (by omega) (by omega)
      obtain ⟨r, hr⟩ : ∃ r, rs[k]? = some r := ⟨_, List.getElem?_eq_getElem (by rw [← HH.out.2.2.1]; exact hkn)⟩
      obtain ⟨g, off, hla, hrg⟩ := HR.out.2.1.line hr
      rw [hla] at c0
      have HRG : Hid (wr.rangeAt g (off + k * 8) (rlA r).toList) := hrg
      have QR : Hid _ := readyR_any r wr (HR.out.2.1.it r (List.mem_of_getElem? hr))
      have HM : Hid (cAt (csR rs) k = r.c ∧ k < (csR rs).length) := ⟨csR_at hr, by rw [HH.out.2.2.2]; exact hkn⟩
      obtain ⟨rb, hrb⟩ : ∃ rb, r.c.rdy = rb := ⟨_, rfl⟩
      have HRB : Hid (r.c.rdy = rb) := hrb
      rw [hrb] at QR
      clear hr hrb hla hrg
      go_upto_region 4 with fail
      go_wp2_with (first | (refine wpList_mid_rlv (.tmp 15) rfl g (off + k * 8) r rfl HRG.out rfl ?_))
      refine Calls.mono QR.out ?_
      rintro e2 w2 ⟨rfl, b2⟩
      have HB2 : Hid (RS w2 v rs ∧ RqvAt w2 B v ∧ Below w.heap.size w w2) := ⟨HR.out.2.1.below b2, HR.out.2.2.1.below b2, bthen HR.out.2.2.2 b2⟩
      clear b2 QR c0
      cases rb with
      | true =>
        have HA2 : Hid (anyR (csR rs) = true) := any_true HM.out.2 (by rw [HM.out.1]; exact HRB.out)
        go_wp2_with fail
        go_ret
        exact ⟨by rw [HA2.out]; rfl, HB2.out.2.2⟩
      | false =>
        have HA2 : Hid (anyR ((csR rs).take (k + 1)) = false) := by show _ = _; rw [any_take HM.out.2, HR.out.1, HM.out.1, HRB.out]; rfl
        go_wp2_with fail
        go_roundw
        case rel => exact ⟨k + 1, by omega, rfl, HA2.out, HB2.out⟩
        case measure => simp only [intOf]; omega
    · have p1 : decide ((k : Int) < (n : Int)) = false := decide_eq_false (by omega)
      have p2 : decide (k < n) = false := decide_eq_false hkn
      have HA2 : Hid (anyR (csR rs) = false) := by
        have h1 := HR.out.1
        rwa [List.take_of_length_le (by rw [HH.out.2.2.2]; omega)] at h1
      clear hkn hk
      go_wp2_with fail
      go_ret
      exact ⟨by rw [HA2.out]; rfl, HR.out.2.2.2⟩
set_option maxHeartbeats 1600000 in
set_option maxRecDepth 100000 in
theorem lenR_any (v : RQ) (rs : List RL) (w : World) (h : RS w v rs) (i : Int) : Calls Try.prog 56 #[.agg (rqA v), .int .i64 i] w fun e w' => e = .returned (.int .i64 (lenQ (csR rs) i)) ∧ Below w.heap.size w w' := by
  obtain ⟨n, hn⟩ : ∃ n, n = v.n := ⟨_, rfl⟩
  have hn8 : n ≤ 8 := by have := h.len; have := h.n; omega
  have HH : Hid (RS w v rs ∧ v.n = n ∧ n = rs.length) := ⟨h, hn.symm, by rw [hn]; exact h.n⟩
  have w1 : IntKind.i64.wrap ((n : Int) - 1) = (n : Int) - 1 := i64_s _ (by omega) (by omega)
  have hlen := h.n
  clear h
  go_enter Try.func56, Try.ntmps56
  go_upto_region 1 with (first | (refine wpList_box_rqv (.tmp 0) rfl v rfl rfl ?_; intro B W hB hA bB))
  have HA : Hid (RqvAt W B v ∧ Below w.heap.size w W ∧ RS W v rs) := ⟨hA, bB, HH.out.1.below bB⟩
  have c0 : W.cell? ⟨B, 0, none⟩ = some (.slice v.la n v.lc) := (hA.cell 0).trans (by rw [← HH.out.2.1]; rfl)
  clear hB hA bB
  have QO : Hid _ := out_any i 0 ((n : Int) - 1) W
  by_cases hi : 0 ≤ i ∧ i ≤ (n : Int) - 1
  · have hb : inB i 0 ((n : Int) - 1) = true := inB_iff.2 hi
    rw [hb] at QO
    obtain ⟨k, hk⟩ : ∃ k : Nat, i = (k : Int) := ⟨i.toNat, by omega⟩
    subst hk
    obtain ⟨r, hr⟩ : ∃ r, rs[k]? = some r := ⟨_, List.getElem?_eq_getElem (by have := HH.out.2.2; omega)⟩
    obtain ⟨g, off, hla, hrg⟩ := HA.out.2.2.line hr
    rw [hla] at c0
    obtain ⟨m, hm⟩ : ∃ m, m = r.c.L.length := ⟨_, rfl⟩
    have c5 : W.cell? ⟨g, off + k * 8 + 5, none⟩ = some (.slice r.la m r.lc) := (hrg 5 _ rfl).trans (by rw [hm])
    have HE : Hid (lenQ (csR rs) (k : Int) = (m : Int)) := by
      show _ = _
      unfold lenQ
      rw [csR_len, if_pos (by have := HH.out.2.2; omega), Int.toNat_natCast, csR_at hr, hm]
    have k0 : (0 : Int) ≤ (k : Int) := by omega
    have k1 : (k : Int) < (n : Int) := by omega
    have k2 : ((k : Int)).toNat = k := by omega
    clear hi hb hr hla hrg hm hn hlen
    go_wp2_with fail
    refine Calls.mono QO.out ?_
    rintro e2 w2 ⟨rfl, rfl⟩
    clear QO
    go_wp2_with fail
    go_ret
    exact ⟨by rw [HE.out]; rfl, HA.out.2.1⟩
  · have hb : inB i 0 ((n : Int) - 1) = false := by
      cases hx : inB i 0 ((n : Int) - 1) with
      | false => rfl
      | true => exact absurd (inB_iff.1 hx) hi
    rw [hb] at QO
    have HE : Hid (lenQ (csR rs) i = 0) := by show _ = _; unfold lenQ; rw [csR_len, if_neg (by have := HH.out.2.2; omega)]
    clear hi hb hn hlen
    go_wp2_with fail
    refine Calls.mono QO.out ?_
    rintro e2 w2 ⟨rfl, rfl⟩
    clear QO
    go_wp2_with fail
    go_ret
    exact ⟨by rw [HE.out]; rfl, HA.out.2.1⟩
theorem szL_take {L : List (Int × Int)} {k : Nat} {x : Int × Int} (h : L[k]? = some x) : szL (L.take (k + 1)) = szL (L.take k) + x.2 := by
  have hk := (List.getElem?_eq_some_iff.1 h).1
  have e : L[k] = x := by rw [List.getElem?_eq_getElem hk] at h; exact Option.some.inj h
  rw [List.take_succ_eq_append_getElem hk, szL_app, e]
  simp [szL]
theorem szL_le {L : List (Int × Int)} (h : ∀ x ∈ L, 1 ≤ x.2 ∧ x.2 ≤ 65535) (k : Nat) : 0 ≤ szL (L.take k) ∧ szL (L.take k) ≤ szL L := by
  have h1 := szL_nn (L := L.take k) (fun x hx => h x (List.mem_of_mem_take hx))
  have h2 := szL_nn (L := L.drop k) (fun x hx => h x (List.mem_of_mem_drop hx))
  have h3 : szL L = szL (L.take k) + szL (L.drop k) := by rw [← szL_app, List.take_append_drop]
  omega
set_option maxHeartbeats 1600000 in
set_option maxRecDepth 100000 in
theorem bytesR_any (v : RQ) (rs : List RL) (w : World) (h : RS w v rs) (hok : ∀ r ∈ rs, ClOk r.c) (i : Int) : Calls Try.prog 57 #[.agg (rqA v), .int .i64 i] w fun e w' => e = .returned (.int .i64 (bytQ (csR rs) i)) ∧ Below w.heap.size w w' := by
  obtain ⟨n, hn⟩ : ∃ n, n = v.n := ⟨_, rfl⟩
  have hn8 : n ≤ 8 := by have := h.len; have := h.n; omega
  have HH : Hid (RS w v rs ∧ v.n = n ∧ n = rs.length) := ⟨h, hn.symm, by rw [hn]; exact h.n⟩
  have w1 : IntKind.i64.wrap ((n : Int) - 1) = (n : Int) - 1 := i64_s _ (by omega) (by omega)
  have hlen := h.n
  clear h
  go_enter Try.func57, Try.ntmps57
  go_upto_region 1 with (first | (refine wpList_box_rqv (.tmp 0) rfl v rfl rfl ?_; intro B W hB hA bB))
  have HA : Hid (RqvAt W B v ∧ Below w.heap.size w W ∧ RS W v rs) := ⟨hA, bB, HH.out.1.below bB⟩
  have c0 : W.cell? ⟨B, 0, none⟩ = some (.slice v.la n v.lc) := (hA.cell 0).trans (by rw [← HH.out.2.1]; rfl)
  clear hB hA bB
  have QO : Hid _ := out_any i 0 ((n : Int) - 1) W
  by_cases hi : 0 ≤ i ∧ i ≤ (n : Int) - 1
  · have hb : inB i 0 ((n : Int) - 1) = true := inB_iff.2 hi
    rw [hb] at QO
    obtain ⟨k, hk⟩ : ∃ k : Nat, i = (k : Int) := ⟨i.toNat, by omega⟩
    subst hk
    obtain ⟨r, hr⟩ : ∃ r, rs[k]? = some r := ⟨_, List.getElem?_eq_getElem (by have := HH.out.2.2; omega)⟩
    have hrm := List.mem_of_getElem? hr
    have hcl := hok r hrm
    obtain ⟨g, off, hla, hrg⟩ := HA.out.2.2.line hr
    rw [hla] at c0
    obtain ⟨m, hm⟩ : ∃ m, m = r.c.L.length := ⟨_, rfl⟩
    have hm4 : m ≤ 4096 := by have h1 := hcl.len; have h2 := hcl.li.it; omega
    have c5 : W.cell? ⟨g, off + k * 8 + 5, none⟩ = some (.slice r.la m r.lc) := (hrg 5 _ rfl).trans (by rw [hm])
    have HE : Hid (bytQ (csR rs) (k : Int) = szL r.c.L) := by
      show _ = _
      unfold bytQ
      rw [csR_len, if_pos (by have := HH.out.2.2; omega), Int.toNat_natCast, csR_at hr]
    have HIT : Hid (RIt W r ∧ m = r.c.L.length ∧ ∀ j, 0 ≤ szL (r.c.L.take j) ∧ szL (r.c.L.take j) ≤ 67108864) := ⟨HA.out.2.2.it r hrm, hm, fun j => by have h1 := szL_le hcl.el j; have h2 := hcl.sz; have h3 := hcl.li.by'; omega⟩
    have k0 : (0 : Int) ≤ (k : Int) := by omega
    have k1 : (k : Int) < (n : Int) := by omega
    have k2 : ((k : Int)).toNat = k := by omega
    clear hi hb hr hla hrg hm hn hlen hrm hcl hok
    go_wp2_with fail
    refine Calls.mono QO.out ?_
    rintro e2 w2 ⟨rfl, rfl⟩
    clear QO
    go_wp2_with fail
    go_loopw [5, 6] (fun sv iv wr => ∃ j : Nat, j ≤ m ∧ iv = .int .i64 (j : Nat) ∧ sv = .int .i64 (szL (r.c.L.take j)) ∧ Hid (W = wr)) (fun _ iv _ => m - (intOf iv).toNat)
    case atStart => exact ⟨0, Nat.zero_le _, rfl, rfl, rfl⟩
    case round =>
      obtain ⟨j, hj, rfl, rfl, HR⟩ := hrel
      have hwr := HR.out
      subst hwr
      clear HR
      by_cases hjm : j < m
      · have p1 : decide ((j : Int) < (m : Int)) = true := decide_eq_true (by omega)
        have p2 : decide (j < m) = true := decide_eq_true hjm
        have j0 : (0 : Int) ≤ (j : Int) := by omega
        have j1 : (j : Int) < (m : Int) := by omega
        have j2 : ((j : Int)).toNat = j := by omega
        obtain ⟨x, hx⟩ : ∃ x, r.c.L[j]? = some x := ⟨_, List.getElem?_eq_getElem (by rw [← HIT.out.2.1]; exact hjm)⟩
        obtain ⟨g2, off2, hla2, hrg2⟩ := HIT.out.1.1.rng riL_len j x hx
        rw [hla2] at c5
        have ci : W.cell? ⟨g2, off2 + j * 2, none⟩ = some (.int .i64 x.2) := hrg2 0 _ rfl
        obtain ⟨s, hs⟩ : ∃ s, szL (r.c.L.take j) = s := ⟨_, rfl⟩
        have HS : Hid (szL (r.c.L.take (j + 1)) = s + x.2) := by show _ = _; rw [szL_take hx, hs]
        have hb1 := HIT.out.2.2 (j + 1)
        rw [HS.out] at hb1
        have ws : IntKind.i64.wrap (s + x.2) = s + x.2 := i64_s _ (by omega) (by omega)
        have wj : IntKind.i64.wrap ((j : Int) + 1) = (j : Int) + 1 := i64_s _ (by omega) (by omega)
        rw [hs]
        clear hx hla2 hrg2 hs hb1
        go_wp2_with fail
        go_roundw
        case rel => exact ⟨j + 1, by omega, rfl, by rw [HS.out], trivial⟩
        case measure => simp only [intOf]; omega
      · have p1 : decide ((j : Int) < (m : Int)) = false := decide_eq_false (by omega)
        have p2 : decide (j < m) = false := decide_eq_false hjm
        have HF : Hid (szL (r.c.L.take j) = szL r.c.L) := by show _ = _; rw [List.take_of_length_le (by have := HIT.out.2.1; omega)]
        clear hjm hj
        go_wp2_with fail
        go_ret
        exact ⟨by rw [HE.out, ← HF.out]; rfl, HA.out.2.1⟩
  · have hb : inB i 0 ((n : Int) - 1) = false := by
      cases hx : inB i 0 ((n : Int) - 1) with
      | false => rfl
      | true => exact absurd (inB_iff.1 hx) hi
    rw [hb] at QO
    have HE : Hid (bytQ (csR rs) i = 0) := by show _ = _; unfold bytQ; rw [csR_len, if_neg (by have := HH.out.2.2; omega)]
    clear hi hb hn hlen hok
    go_wp2_with fail
    refine Calls.mono QO.out ?_
    rintro e2 w2 ⟨rfl, rfl⟩
    clear QO
    go_wp2_with fail
    go_ret
    exact ⟨by rw [HE.out]; rfl, HA.out.2.1⟩
end Go.Proofs.Ytcdbhkihbfjedaa
