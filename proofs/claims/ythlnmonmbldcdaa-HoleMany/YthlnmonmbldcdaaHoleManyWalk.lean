/-
  The walk of HoleMany.
-/
import Derived.Test.YthlnmonmbldcdaaHMnP
import Derived.Test.YthlnmonmbldcdaaRows
namespace Go.Proofs.Ythlnmonmbldcdaa
open Go.RowKit Go.Maps H11
namespace H11

/-- the data -/
def mB (i : Nat) : Nat := (i * 7 + i / 256) % 256
def mD (N : Nat) : List Nat := (List.range N).map mB
theorem mD_len (N : Nat) : (mD N).length = N := by simp [mD]
theorem mD_8 (N : Nat) : ∀ x ∈ mD N, x < 256 := by
  intro x hx
  simp only [mD, List.mem_map] at hx
  obtain ⟨i, _, rfl⟩ := hx
  exact Nat.mod_lt _ (by omega)
/-- the row, filled so far -/
structure RowF (w0 : World) (base db N j : Nat) (wr : World) (xs : List Value) : Prop where
  own : wr.ownsRow base 5 1 (.slice (some ⟨db, 0, none⟩) N N) N xs
  int : ∀ t, t < N → ∃ c : Int, xs[t]? = some (.int .u8 c)
  don : ∀ t, t < j → xs[t]? = some (.int .u8 (mB t : Nat))
  bel : Below w0.heap.size w0 wr
theorem RowF.start {w0 wr : World} {db N : Nat} (h : wr.ownsRow w0.heap.size 5 1 (.slice (some ⟨db, 0, none⟩) N N) N (madeCells #[Value.int .u8 0] N).toList) (hb : Below w0.heap.size w0 wr) : RowF w0 w0.heap.size db N 0 wr (madeCells #[Value.int .u8 0] N).toList := by
  refine ⟨h, ?_, fun t ht => by omega, hb⟩
  intro t ht
  refine ⟨0, ?_⟩
  simp [madeCells, ht, Nat.mod_one]
theorem RowF.next {w0 wr : World} {db N j : Nat} {xs : List Value} (h : RowF w0 w0.heap.size db N j wr xs) (hj : j < N) : RowF w0 w0.heap.size db N (j + 1) (wr.setCell ⟨db, j, none⟩ (.int .u8 (mB j : Nat))) (xs.set j (.int .u8 (mB j : Nat))) := by
  obtain ⟨h1, h2⟩ := h.own.stored j (.int .u8 (mB j : Nat))
  have hl : xs.length = N := by simpa using h.own.1
  have hdb := (h.own.lt db rfl).1
  refine ⟨h1, ?_, ?_, h.bel.grown h2 h.bel.size (fun q hq => by simp at hq; omega)⟩
  · intro t ht
    by_cases e : j = t
    · exact ⟨(mB j : Nat), by rw [List.getElem?_set, if_pos e, if_pos (by omega)]⟩
    · obtain ⟨c, hc⟩ := h.int t ht
      exact ⟨c, by rw [List.getElem?_set, if_neg e]; exact hc⟩
  · intro t ht
    by_cases e : j = t
    · subst e
      rw [List.getElem?_set, if_pos rfl, if_pos (by omega)]
    · rw [List.getElem?_set, if_neg e]
      exact h.don t (by omega)
theorem RowF.fin {w0 wr : World} {db N : Nat} {xs : List Value} (h : RowF w0 w0.heap.size db N N wr xs) : Seg .u8 wr (some ⟨db, 0, none⟩) (toI (mD N)) := by
  refine .inr ⟨db, 0, rfl, ?_⟩
  intro i hi
  rw [toI_len, mD_len] at hi
  have := h.own.cells (g := db) rfl i _ (h.don i hi)
  rw [Addr.add_lit] at this
  rw [this, toI_getD]
  simp [mD, List.getD, hi]
theorem RowF.cell {w0 wr : World} {db N j : Nat} {xs : List Value} (h : RowF w0 w0.heap.size db N j wr xs) (hj : j < N) : (∃ c : Int, wr.cell? ⟨db, j, none⟩ = some (.int .u8 c)) ∧ wr.frozen? ⟨db, j, none⟩ = false := by
  obtain ⟨c, hc⟩ := h.int j hj
  have := h.own.cells (g := db) rfl j _ hc
  rw [Addr.add_lit, Nat.zero_add] at this
  refine ⟨⟨c, this⟩, ?_⟩
  rcases h.own.2 with ⟨e1, _⟩ | ⟨g, cap, cur, e1, _, e3, _⟩
  · simp at e1
  · simp only [Value.slice.injEq, Option.some.injEq, Addr.mk.injEq, and_true] at e1
    obtain ⟨rfl, _, _⟩ := e1
    simp [World.frozen?, e3]

/-- what the great loop holds on to -/
structure HM (w0 : World) (H db N sz K i : Nat) (C : Nat → Bool) (s : HS) (v : HV) (wr : World) : Prop where
  own : Own1 w0 H 65535 i s v wr
  pst : PSt (mD N) (szs N sz K) C s
  sum : s.bd = hB (szs N sz K) C K + sm s.gp
theorem HM.below {w0 : World} {H db N sz K i : Nat} {C : Nat → Bool} {s : HS} {v : HV} {wr w' : World} (h : HM w0 H db N sz K i C s v wr) (hb : Below wr.heap.size wr w') : HM w0 H db N sz K i C s v w' := ⟨h.own.below hb, h.pst, h.sum⟩
/-- Put of the j-th piece -/
theorem HM.put {w0 : World} {H db N sz K i : Nat} {C : Nat → Bool} {s : HS} {v : HV} {wr : World} (h : HM w0 H db N sz K i C s v wr) (hi : i ≤ 500000) (hN : N ≤ 65535) (hs : Szs N sz K) (hdb : db < w0.heap.size) (hsg : Seg .u8 w0 (some ⟨db, 0, none⟩) (toI (mD N))) (j : Nat) (hj : j < K) {o n : Nat} {more : Bool} (ho : o = j * sz) (hn : n = min N ((j + 1) * sz) - j * sz) (hm : more = decide (o + n < N)) :
    Calls Try.prog 13 #[.pointer (some ⟨H, 0, none⟩), .int .i64 (o : Int), .slice (some ⟨db, o, none⟩) n (N - o), .bool more] wr fun r w' => r = .returned (.tuple #[.agg #[.int .i64 ((if C j = true then 0 else n : Nat) : Int), .int .i64 ((n : Int) - ((if C j = true then 0 else n : Nat) : Int)), .bool (C j)], .int .i64 0]) ∧ Ch (HB H v) wr w' ∧ ∃ s' v', HM w0 H db N sz K (i + 1) (updB C j) s' v' w' := by
  have hlen := szs_len N sz K
  have hcut := hs.cut
  have hlt := hs.lt j hj
  have e1 : (j + 1) * sz = j * sz + sz := by rw [Nat.add_mul, Nat.one_mul]
  have hs1 := hs.s1
  have ho' : o = ofs (szs N sz K) j := by rw [hs.ofs j (by omega), ho]; omega
  have hn' : n = (szs N sz K).getD j 0 := by rw [szs_at N sz K j hj, hn]
  obtain ⟨d, hd⟩ : ∃ d, d = ((mD N).drop o).take n := ⟨_, rfl⟩
  obtain ⟨p1, p2, p3, p4, p5, p6⟩ := h.pst.put (more := more) (by rw [mD_len]; exact hcut) (by rw [mD_len]; exact hN) (mD_8 N) (by rw [hlen]; exact hj) ho' hn' hd (by rw [mD_len]; exact hm)
  have hon : o + n ≤ N := by omega
  have hn1 : 1 ≤ n := by omega
  have hsw := hsg.old h.own.bel
  have hseg : Seg .u8 wr (some ⟨db, o, none⟩) (toI d) := by
    have := hsw.part o n (by rw [toI_len, mD_len]; exact hon)
    rw [toI_drop, toI_take, ← hd] at this
    simpa [Addr.add_lit] using this
  have ht := h.own.tk
  have := put_u wr H s v h.own.hat h.own.inv (o : Int) d (some ⟨db, o, none⟩) (N - o) more (fun z hz => mD_8 N z (by rw [hd] at hz; exact List.mem_of_mem_drop (List.mem_of_mem_take hz))) (by omega) (by rw [p1]; omega) hseg (by
    intro y _ hy q
    simp only [Option.some.injEq] at hy
    subst hy
    have := h.own.lo _ q
    simp only at this
    omega)
  rw [p2, p3, p4, p5, p1] at this
  refine this.mono ?_
  rintro e w' ⟨rfl, hmv⟩
  have hch : Ch (HB H v) wr w' := by obtain ⟨_, _, _, q⟩ := hmv; exact q
  obtain ⟨v', hv'⟩ := h.own.moved (k' := i + 1) hmv p6.inv p6.mx (by have := pS_tk s (o : Int) d more; omega)
  refine ⟨rfl, hch, pS s (o : Int) d more, v', hv', p6, ?_⟩
  -- the sum
  have hr : rf s (o : Int) d.length more = 0 := by rw [p1]; rw [p1] at p2; exact p2
  have hps : pS s (o : Int) d more = pt s o d more := by unfold pS; rw [if_pos hr, Int.toNat_natCast]
  obtain ⟨o2, ho2, hok, _⟩ := rf_ok hr
  have ho3 : o2 = o := by omega
  subst ho3
  obtain ⟨_, _, q3⟩ := pt_inv h.own.inv hok (fun z hz => mD_8 N z (by rw [hd] at hz; exact List.mem_of_mem_drop (List.mem_of_mem_take hz)))
  have hcnt : fN o2 (o2 + d.length) s.gp = if C j = true then 0 else n := by
    have := h.pst.cnt (by rw [mD_len]; exact hcut) (by rw [hlen]; exact hj)
    rw [← ho', ← hn'] at this
    rw [p1]; exact this
  rw [hcnt] at q3
  rw [hps]
  have hsum := h.sum
  by_cases c : C j = true
  · rw [if_pos c] at q3
    rw [updB_id C j c]
    omega
  · rw [if_neg c] at q3
    rw [hB_upd _ C j (by simpa using c) K hj, ← hn']
    omega
end H11

set_option maxRecDepth 100000 in
set_option maxHeartbeats 51200000 in
theorem holeMany.walk (a0 a1 : Int) (W : World) (_ : (Lit.int .i64 a0).wf = true) (_ : (Lit.int .i64 a1).wf = true) :
    Calls Try.prog 5 #[.int .i64 a0, .int .i64 a1] W fun e W' => e = .returned (.bool true) ∧ Below W.heap.size W W' := by
  obtain ⟨i0, hi0, hz0, hz1, hz2⟩ := info_parts Try.infoByte
  go_enter Try.func5, Try.ntmps5
  go_upto_region 1 with fail
  go_cut [0] (fun x wx => (∃ N : Nat, x = .int .i64 (N : Int) ∧ 1 ≤ N ∧ N ≤ 65535) ∧ W = wx)
  case first =>
    by_cases h1 : a0 < 1
    · go_wp2
      go_meet
      exact ⟨⟨1, by simp, by omega, by omega⟩, rfl⟩
    · by_cases h2 : (65535 : Int) < a0
      · go_wp2
        go_meet
        exact ⟨⟨65535, by simp, by omega, by omega⟩, rfl⟩
      · have HA : Hid ((a0.toNat : Int) = a0 ∧ 1 ≤ a0.toNat ∧ a0.toNat ≤ 65535) := by show _ ∧ _; omega
        go_wp2
        go_meet
        exact ⟨⟨a0.toNat, by rw [HA.out.1], HA.out.2.1, HA.out.2.2⟩, rfl⟩
  case rest =>
    obtain ⟨⟨N, rfl, hN1, hN5⟩, rfl⟩ := hcut
    go_upto_region 2 with fail
    go_cut [1] (fun x wx => (∃ q : Nat, x = .int .i64 ((8 * q : Nat) : Int) ∧ 1 ≤ q ∧ q ≤ 8192) ∧ W = wx)
    case first =>
      by_cases h1 : a1 < 1
      · go_wp2
        go_meet
        exact ⟨⟨1, by simp, by omega, by omega⟩, rfl⟩
      · by_cases h2 : (8192 : Int) < a1
        · go_wp2
          go_meet
          exact ⟨⟨8192, by simp, by omega, by omega⟩, rfl⟩
        · obtain ⟨q, hq⟩ := Int.eq_ofNat_of_zero_le (show 0 ≤ a1 by omega)
          subst hq
          have w8 : IntKind.i64.wrap (8 * (q : Int)) = ((8 * q : Nat) : Int) := by rw [IntKind.wrap_i64]; omega
          have HA : Hid (1 ≤ q ∧ q ≤ 8192) := by show _ ∧ _; omega
          go_wp2
          go_meet
          exact ⟨⟨q, by first | rfl | simp, HA.out.1, HA.out.2⟩, rfl⟩
    case rest =>
      obtain ⟨⟨q, rfl, hq1, hq8⟩, rfl⟩ := hcut
      obtain ⟨sz, hsz⟩ : ∃ sz, sz = 8 * q := ⟨_, rfl⟩
      rw [← hsz]
      have hs8 : sz % 8 = 0 := by omega
      have hs1 : 8 ≤ sz := by omega
      have hs5 : sz ≤ 65536 := by omega
      clear hsz hq1 hq8
      go_wp2_with (first | (at_make; refine wpList_make_full _ rfl _ _ 22 rfl W.heap.size 5 i0 _ 1 Try.underlying22 hi0 hz0 hz1 _ _ _ _ N rfl rfl rfl rfl (by rw [hz2]; omega) (by unfold maxLen; omega) (Nat.le_refl _) ?_))
      intro w1 ho1 hg1
      have hb1 : Below W.heap.size W w1 := (Below.refl _ _).grown hg1 (Nat.le_refl _) (by intro k hk; simp at hk)
      obtain ⟨db, hdb0⟩ : ∃ db, db = W.heap.size := ⟨_, rfl⟩
      rw [← hdb0] at ho1 ⊢
      have HDB : Hid (db = W.heap.size) := hdb0
      have HR0 : Hid (RowF W W.heap.size db N 0 w1 (madeCells #[Value.int .u8 0] N).toList) := by
        have := ho1
        rw [hdb0] at this ⊢
        exact RowF.start this hb1
      clear ho1 hg1 hb1 hdb0
      go_wp2
      go_loopw [6] (fun ix wr => ∃ (j : Nat) (xs : List Value), j ≤ N ∧ ix = .int .i64 (j : Int) ∧ Hid (RowF W W.heap.size db N j wr xs)) (fun ix _ => N - (intOf ix).toNat)
      case atStart => exact ⟨0, _, Nat.zero_le _, rfl, HR0⟩
      case round =>
        obtain ⟨j, xs, hj, rfl, HR⟩ := hrel
        by_cases hlt : j < N
        · obtain ⟨⟨c, hc⟩, hf⟩ := HR.out.cell hlt
          have HR2 : Hid _ := HR.out.next hlt
          have u1 : IntKind.i64.wrap ((j : Int) * 7) = (j : Int) * 7 := by rw [IntKind.wrap_i64]; omega
          have u3 : IntKind.i64.wrap ((j : Int) * 7 + (j : Int) / 256) = (j : Int) * 7 + (j : Int) / 256 := by rw [IntKind.wrap_i64]; omega
          obtain ⟨m, hm⟩ : ∃ m, m = mB j := ⟨_, rfl⟩
          rw [← hm] at HR2
          have u4 : IntKind.u8.wrap ((j : Int) * 7 + (j : Int) / 256) = (m : Int) := by rw [hm]; unfold mB; rw [IntKind.wrap_u8]; omega
          have u5 : ((j : Int) * 7 + (j : Int) / 256) % 256 = (m : Int) := by rw [hm]; unfold mB; omega
          have d1 : (j : Int) < (N : Int) := by omega
          clear hm HR
          go_wp2
          go_roundw
          case rel => exact ⟨j + 1, _, by omega, by go_num, HR2⟩
          case measure => simp [intOf]; omega
        · obtain rfl : j = N := by omega
          have HSG0 : Hid (Seg .u8 wr (some ⟨db, 0, none⟩) (toI (mD j))) := HR.out.fin
          have HBW : Hid (Below W.heap.size W wr) := HR.out.bel
          have HDL : Hid (db < wr.heap.size) := (HR.out.own.lt db rfl).2
          have QN : Hid _ := new_yes wr 65535 (by omega) (by omega)
          have hNN : ¬ (j : Int) < (j : Int) := by omega
          clear HR hlt hj
          obtain ⟨N, hNj⟩ : ∃ N, N = j := ⟨_, rfl⟩
          rw [← hNj] at HSG0 hN1 hN5 hNN ⊢
          clear hNj
          go_wp2_with fail
          refine Calls.mono QN.out ?_
          rintro e4 w4 ⟨H, v, rfl, hat4, hlo4, hb4⟩
          obtain ⟨w3, hw3⟩ : ∃ w3, w3 = wr := ⟨_, rfl⟩
          rw [← hw3] at HSG0 HBW HDL hlo4 hb4
          have HSG : Hid (Seg .u8 w3 (some ⟨db, 0, none⟩) (toI (mD N))) := HSG0.out
          have hdb : db < w3.heap.size := HDL.out
          have HBW3 : Hid (Below W.heap.size W w3) := HBW.out
          have HO4 : Hid (Own1 w3 H 65535 0 (nw 65535) v w4) := ⟨hat4, nw_inv 65535 (by omega) (by omega), rfl, by simp [nw], hlo4, hb4⟩
          clear QN hat4 hlo4 hb4 hw3 HSG0 HBW HDL
          obtain ⟨K, hK⟩ : ∃ K, K = (N + sz - 1) / sz := ⟨_, rfl⟩
          have HZS : Hid (Szs N sz K) := by
            have h1 : N + sz - 1 = sz * ((N + sz - 1) / sz) + (N + sz - 1) % sz := (Nat.div_add_mod _ _).symm
            have h2 : (N + sz - 1) % sz < sz := Nat.mod_lt _ (by omega)
            rw [← hK] at h1
            have hK1 : 1 ≤ K := by
              apply Classical.byContradiction
              intro q
              obtain rfl : K = 0 := by omega
              simp at h1
              omega
            refine ⟨hN1, hs1, hs8, hK1, ?_, ?_⟩
            · intro j hj
              have h3 : (j + 1) * sz ≤ K * sz := Nat.mul_le_mul_right _ hj
              rw [Nat.add_mul, Nat.one_mul] at h3
              rw [Nat.mul_comm] at h1
              omega
            · rw [Nat.mul_comm] at h1
              omega
          have hKb : K ≤ 65535 := by
            have h1 := HZS.out.lt (K - 1) (by have := HZS.out.k1; omega)
            have h2 : (K - 1) * 8 ≤ (K - 1) * sz := Nat.mul_le_mul_left _ hs1
            omega
          have HS0 : Hid (HM w3 H db N sz K 0 (CI K 0) (nw 65535) v w4) := by
            have hcut := HZS.out.cut
            refine ⟨HO4.out, (PSt.start (mD N) (szs N sz K) (by rw [mD_len]; exact hcut) (by rw [mD_len]; exact hN5)).congr (by rw [szs_len]; exact HZS.out.k1) (fun q hq => (CI_start K q (by rw [szs_len] at hq; exact hq)).symm), ?_⟩
            rw [hB_none _ _ K (fun q hq => CI_start K q hq)]
            simp [nw, HS.bd, sm]
          have wa : IntKind.i64.wrap ((N : Int) + (sz : Int)) = (N : Int) + (sz : Int) := by rw [IntKind.wrap_i64]; omega
          have wb : IntKind.i64.wrap ((N : Int) + (sz : Int) - 1) = ((N + sz - 1 : Nat) : Int) := by rw [IntKind.wrap_i64]; omega
          have hs0 : ((sz : Int) == 0) = false := by rw [beq_eq_false_iff_ne]; omega
          have hqd : ((N + sz - 1 : Nat) : Int).tdiv (sz : Int) = (K : Int) := by rw [hK]; rfl
          have hqe : ((N + sz - 1 : Nat) : Int) / (sz : Int) = (K : Int) := by rw [hK]; rfl
          have hK1 : 1 ≤ K := HZS.out.k1
          have hv0 : hB (szs N sz K) (CI K 0) K = 0 := hB_none _ _ K (fun q hq => CI_start K q hq)
          have HV0 : Hid _ := hv0
          clear hK hv0 HO4
          go_wp2
          go_loopw [10, 11] (fun xv ix wr => ∃ (i : Nat) (s : HS) (v : HV), i ≤ 2 * K ∧ ix = .int .i64 (i : Int) ∧ xv = .int .i64 ((hB (szs N sz K) (CI K i) K : Nat) : Int) ∧ Hid (HM w3 H db N sz K i (CI K i) s v wr)) (fun _ ix _ => 2 * K - (intOf ix).toNat)
          case atStart => exact ⟨0, nw 65535, v, Nat.zero_le _, rfl, by rw [HV0.out]; rfl, HS0⟩
          case round =>
            obtain ⟨i, s, v, hi, rfl, rfl, HW⟩ := hrel
            clear HS0 HV0
            obtain ⟨hv, hhv⟩ : ∃ hv, hv = hB (szs N sz K) (CI K i) K := ⟨_, rfl⟩
            have HHV : Hid (hB (szs N sz K) (CI K i) K = hv) := hhv.symm
            have hvb : hv ≤ 65535 := by
              have h1 := hB_le (szs N sz K) (CI K i) K (by rw [szs_len]; exact Nat.le_refl _)
              have h2 := HZS.out.cut.le K
              omega
            rw [← hhv]
            clear hhv
            by_cases hge : 2 * K ≤ i
            · obtain rfl : i = 2 * K := by omega
              have d1 : ¬ ((2 * K : Nat) : Int) < 2 * (K : Int) := by omega
              have d1' : ¬ ((2 : Int) * (K : Int)) < 2 * (K : Int) := by omega
              clear hge
              as_aux_lemma =>
                have hall : ∀ q, q < (szs N sz K).length → CI K (2 * K) q = true := fun q hq => CI_end K q (by rw [szs_len] at hq; exact hq)
                have hcutD : Cut (szs N sz K) (mD N).length := by rw [mD_len]; exact HZS.out.cut
                have hl0 : 0 < (szs N sz K).length := by rw [szs_len]; exact HZS.out.k1
                have hwh := (HW.out.pst.whole hcutD (by rw [mD_len]; exact HZS.out.n1) hl0).2 hall
                have hbs := HW.out.pst.all hcutD hl0 hall
                have QB : Hid _ := bytes_any wr H s v HW.out.own.hat (by rw [hbs, mD_len]; exact hN5) true (decide_eq_true hwh).symm
                rw [bz_t, hbs, mD_len] at QB
                have hen : s.en = N := by
                  rw [HW.out.pst.en, hall _ (by omega), if_pos rfl, mD_len]
                have QT : Hid (∀ A : World, HAt A H s v → Calls Try.prog 18 #[.pointer (some ⟨H, 0, none⟩)] A fun r w' => r = .returned (.tuple #[.int .i64 (N : Int), .bool true]) ∧ Below A.heap.size A w') := by
                  intro A hA
                  have := total_any A H s v hA
                  rw [hen, decide_eq_true (show 0 < N from HZS.out.n1)] at this
                  exact this
                obtain ⟨n, hn⟩ : ∃ n, n = min N sz := ⟨_, rfl⟩
                have QP : Hid (∀ A : World, HM w3 H db N sz K (2 * K) (CI K (2 * K)) s v A → Calls Try.prog 13 #[.pointer (some ⟨H, 0, none⟩), .int .i64 0, .slice (some ⟨db, 0, none⟩) n N, .bool (decide (sz < N))] A fun r w' => r = .returned (.tuple #[.agg #[.int .i64 0, .int .i64 (n : Int), .bool true], .int .i64 0]) ∧ Ch (HB H v) A w' ∧ ∃ s' v', HM w3 H db N sz K (2 * K + 1) (CI K (2 * K)) s' v' w' ∧ s'.gp = []) := by
                  intro A hA
                  have h1 := hA.put (by omega) hN5 HZS.out hdb HSG.out 0 HZS.out.k1 (o := 0) (n := n) (more := decide (sz < N)) (by simp) (by rw [hn]; simp) (by rw [hn]; congr 1; exact propext (by omega))
                  have h0 : CI K (2 * K) 0 = true := CI_end K 0 HZS.out.k1
                  rw [h0] at h1
                  simp only [if_true, Int.natCast_zero, Int.sub_zero, Nat.sub_zero] at h1
                  refine h1.mono ?_
                  rintro e w' ⟨rfl, hch, s', v', hh⟩
                  rw [updB_id _ 0 h0] at hh
                  exact ⟨rfl, hch, s', v', hh, ((hh.pst.whole hcutD (by rw [mD_len]; exact HZS.out.n1) hl0).2 hall).2⟩
                have hnN : n ≤ N := by omega
                have HN9 : Hid (n = min N sz) := hn
                clear hall hcutD hl0 hwh hbs hen hn
                go_wp2_with fail
                refine Calls.mono QB.out ?_
                rintro e1 w5 ⟨ua, un, uc, rfl, hul, hub, hb5⟩
                subst hul
                have HM5 : Hid (HM w3 H db N sz K (2 * K) (CI K (2 * K)) s v w5) := HW.out.below hb5
                have QS : Hid (∀ A : World, Ch (HB H v) w5 A → Below w3.heap.size w3 A → Calls Try.prog 16 #[.slice ua N uc, .slice (some ⟨db, 0, none⟩) N N] A fun r w' => r = .returned (.bool true) ∧ Below A.heap.size A w') := by
                  intro A hA hbA
                  obtain ⟨a', c', q1, hsg, _⟩ := owns_seg hub (k := .u8)
                  simp only [Value.slice.injEq, true_and] at q1
                  obtain ⟨rfl, rfl⟩ := q1
                  have hsA := hA.seg hsg (fun x _ hx q => by
                    have h1 := (hub.lt x.block (by rw [hx]; rfl)).1
                    have h2 := HW.out.own.hat.lt _ q
                    omega)
                  have := same_any ua (some ⟨db, 0, none⟩) N N uc N (mD N) (mD N) A (mD_len N) (mD_len N) hsA (HSG.out.old hbA) (by omega)
                  rw [decide_eq_true rfl] at this
                  exact this
                clear QB hub hb5 HW
                go_wp2_with fail
                refine Calls.mono (QT.out _ HM5.out.own.hat) ?_
                rintro e2 w6 ⟨rfl, hb6⟩
                have HM6 : Hid (HM w3 H db N sz K (2 * K) (CI K (2 * K)) s v w6) := HM5.out.below hb6
                have HB56 : Hid (Below w5.heap.size w5 w6) := hb6
                clear QT hb6
                have e6 : decide ((sz : Int) < (N : Int)) = decide (sz < N) := by congr 1; exact propext (by omega)
                have HE6 : Hid (decide ((sz : Int) < (N : Int)) = decide (sz < N)) := e6
                clear e6
                have HQ0 : Hid _ := QP.out _ HM6.out
                go_upto_region 29 with fail
                by_cases hq : sz < N
                · have e5 : (sz : Int) < (N : Int) := by omega
                  have hns : n = sz := by have := HN9.out; omega
                  have QPA := HQ0.out
                  rw [decide_eq_true hq, hns] at QPA
                  rw [hns] at hnN
                  clear hq
                  have HQPA : Hid _ := QPA
                  clear QPA QP HN9 hns HQ0
                  go_wp2_with fail
                  refine Calls.mono HQPA.out ?_
                  rintro e3 w7 ⟨rfl, hch7, s', v', hh, hgp⟩
                  have HM7 : Hid (HM w3 H db N sz K (2 * K + 1) (CI K (2 * K)) s' v' w7) := hh
                  have HC7 : Hid (Ch (HB H v) w5 w7) := (Ch.ofBelow (S := HB H v) HB56.out).trans hch7 (fun _ _ q => q)
                  have QG : Hid (∀ A : World, HAt A H s' v' → Calls Try.prog 17 #[.pointer (some ⟨H, 0, none⟩)] A fun r w' => ∃ ga gc, r = .returned (.slice ga 0 gc) ∧ Below A.heap.size A w') := by
                    intro A hA
                    refine (gaps_any A H s' v' hA (by rw [hgp]; simp)).mono ?_
                    rintro e w' ⟨u, rfl, q1, q2⟩
                    obtain ⟨ga, gc, rfl⟩ := owns_shape q1
                    rw [hgp]
                    exact ⟨ga, gc, rfl, q2⟩
                  have HFN : Hid (FtAt (w7.alloc (.cells #[.int .i64 0, .int .i64 (sz : Int), .bool true] 33)) w7.heap.size #[.int .i64 0, .int .i64 (sz : Int), .bool true]) := FtAt_new _ _
                  clear hch7 hh hgp HQPA HB56
                  go_upto_region 30 with fail
                  obtain ⟨F, hF⟩ : ∃ F, F = w7.heap.size := ⟨_, rfl⟩
                  obtain ⟨w8, hw8⟩ : ∃ w8, w8 = w7.alloc (.cells #[.int .i64 0, .int .i64 (sz : Int), .bool true] 33) := ⟨_, rfl⟩
                  have hb8 : Below w7.heap.size w7 w8 := by rw [hw8]; exact (Below.refl _ _).alloc (Nat.le_refl _) _
                  have HM8 : Hid (HM w3 H db N sz K (2 * K + 1) (CI K (2 * K)) s' v' w8) := HM7.out.below hb8
                  have HC8 : Hid (Ch (HB H v) w5 w8) := HC7.out.trans (Ch.ofBelow (S := HB H v) hb8) (fun _ _ q => q)
                  rw [← hF, ← hw8] at HFN
                  rw [← hF, ← hw8]
                  clear hF hw8 hb8 HM7 HC7
                  go_wp2_with fail
                  refine Calls.mono (QS.out w8 HC8.out HM8.out.own.bel) ?_
                  rintro e9 w9 ⟨rfl, hb9⟩
                  have HM9 : Hid (HM w3 H db N sz K (2 * K + 1) (CI K (2 * K)) s' v' w9) := HM8.out.below hb9
                  have HF9 : Hid (FtAt w9 F #[.int .i64 0, .int .i64 (sz : Int), .bool true]) := FtAt.below HFN.out hb9
                  have hNe : ((N : Int) == (N : Int)) = true := by simp
                  clear QS hb9 HM8 HC8 HFN
                  go_wp2_with fail
                  refine Calls.mono (QG.out w9 HM9.out.own.hat) ?_
                  rintro eA wA ⟨ga, gc, rfl, hbA⟩
                  have HFA : Hid (FtAt wA F #[.int .i64 0, .int .i64 (sz : Int), .bool true]) := FtAt.below HF9.out hbA
                  have f0 : wA.cell? ⟨F, 0, none⟩ = some (.int .i64 0) := FtAt.cell HFA.out 0
                  have f2 : wA.cell? ⟨F, 2, none⟩ = some (.bool true) := FtAt.cell HFA.out 2
                  have HBF : Hid (Below W.heap.size W wA) := by
                    have h1 := HM9.out.own.bel.trans (hbA.mono HM9.out.own.bel.size)
                    exact HBW3.out.trans (h1.mono HBW3.out.size)
                  clear QG hbA HM9 HF9
                  go_wp2
                  go_ret
                  exact ⟨rfl, HBF.out⟩
                · have e5 : ¬ (sz : Int) < (N : Int) := by omega
                  have hns : n = N := by have := HN9.out; omega
                  have QPA := HQ0.out
                  rw [decide_eq_false hq, hns] at QPA
                  rw [hns] at hnN
                  clear hq
                  have HQPA : Hid _ := QPA
                  clear QPA QP HN9 hns HQ0
                  go_wp2_with fail
                  refine Calls.mono HQPA.out ?_
                  rintro e3 w7 ⟨rfl, hch7, s', v', hh, hgp⟩
                  have HM7 : Hid (HM w3 H db N sz K (2 * K + 1) (CI K (2 * K)) s' v' w7) := hh
                  have HC7 : Hid (Ch (HB H v) w5 w7) := (Ch.ofBelow (S := HB H v) HB56.out).trans hch7 (fun _ _ q => q)
                  have QG : Hid (∀ A : World, HAt A H s' v' → Calls Try.prog 17 #[.pointer (some ⟨H, 0, none⟩)] A fun r w' => ∃ ga gc, r = .returned (.slice ga 0 gc) ∧ Below A.heap.size A w') := by
                    intro A hA
                    refine (gaps_any A H s' v' hA (by rw [hgp]; simp)).mono ?_
                    rintro e w' ⟨u, rfl, q1, q2⟩
                    obtain ⟨ga, gc, rfl⟩ := owns_shape q1
                    rw [hgp]
                    exact ⟨ga, gc, rfl, q2⟩
                  have HFN : Hid (FtAt (w7.alloc (.cells #[.int .i64 0, .int .i64 (N : Int), .bool true] 33)) w7.heap.size #[.int .i64 0, .int .i64 (N : Int), .bool true]) := FtAt_new _ _
                  clear hch7 hh hgp HQPA HB56
                  go_upto_region 30 with fail
                  obtain ⟨F, hF⟩ : ∃ F, F = w7.heap.size := ⟨_, rfl⟩
                  obtain ⟨w8, hw8⟩ : ∃ w8, w8 = w7.alloc (.cells #[.int .i64 0, .int .i64 (N : Int), .bool true] 33) := ⟨_, rfl⟩
                  have hb8 : Below w7.heap.size w7 w8 := by rw [hw8]; exact (Below.refl _ _).alloc (Nat.le_refl _) _
                  have HM8 : Hid (HM w3 H db N sz K (2 * K + 1) (CI K (2 * K)) s' v' w8) := HM7.out.below hb8
                  have HC8 : Hid (Ch (HB H v) w5 w8) := HC7.out.trans (Ch.ofBelow (S := HB H v) hb8) (fun _ _ q => q)
                  rw [← hF, ← hw8] at HFN
                  rw [← hF, ← hw8]
                  clear hF hw8 hb8 HM7 HC7
                  go_wp2_with fail
                  refine Calls.mono (QS.out w8 HC8.out HM8.out.own.bel) ?_
                  rintro e9 w9 ⟨rfl, hb9⟩
                  have HM9 : Hid (HM w3 H db N sz K (2 * K + 1) (CI K (2 * K)) s' v' w9) := HM8.out.below hb9
                  have HF9 : Hid (FtAt w9 F #[.int .i64 0, .int .i64 (N : Int), .bool true]) := FtAt.below HFN.out hb9
                  have hNe : ((N : Int) == (N : Int)) = true := by simp
                  clear QS hb9 HM8 HC8 HFN
                  go_wp2_with fail
                  refine Calls.mono (QG.out w9 HM9.out.own.hat) ?_
                  rintro eA wA ⟨ga, gc, rfl, hbA⟩
                  have HFA : Hid (FtAt wA F #[.int .i64 0, .int .i64 (N : Int), .bool true]) := FtAt.below HF9.out hbA
                  have f0 : wA.cell? ⟨F, 0, none⟩ = some (.int .i64 0) := FtAt.cell HFA.out 0
                  have f2 : wA.cell? ⟨F, 2, none⟩ = some (.bool true) := FtAt.cell HFA.out 2
                  have HBF : Hid (Below W.heap.size W wA) := by
                    have h1 := HM9.out.own.bel.trans (hbA.mono HM9.out.own.bel.size)
                    exact HBW3.out.trans (h1.mono HBW3.out.size)
                  clear QG hbA HM9 HF9
                  go_wp2
                  go_ret
                  exact ⟨rfl, HBF.out⟩
            · have hi2 : i < 2 * K := by omega
              have d1 : (i : Int) < 2 * (K : Int) := by omega
              have w2k : IntKind.i64.wrap (2 * (K : Int)) = 2 * (K : Int) := by rw [IntKind.wrap_i64]; omega
              clear hge
              go_upto_region 16 with fail
              go_cut [77] (fun x wx => x = .bool false ∧ Below wr.heap.size wr wx)
              case first =>
                by_cases hik : i = K
                · have e1 : ((i : Int) == (K : Int)) = true := by rw [hik]; simp
                  have hgl : s.gp.length = (K + 1) / 2 := by
                    have := HW.out.pst
                    rw [hik] at this
                    exact this.gapsMid (mD_len N) HZS.out
                  have wk : IntKind.i64.wrap ((K : Int) + 1) = ((K + 1 : Nat) : Int) := by rw [IntKind.wrap_i64]; omega
                  have hq1 : ((K + 1 : Nat) : Int).tdiv 2 = (((K + 1) / 2 : Nat) : Int) := rfl
                  have hq2 : ((K : Int) + 1) / 2 = (((K + 1) / 2 : Nat) : Int) := by omega
                  have hq3 : ((K : Int) + 1).tdiv 2 = (((K + 1) / 2 : Nat) : Int) := by have := hq1; rw [← this]; rfl
                  obtain ⟨G2, hG2⟩ : ∃ G2, G2 = (K + 1) / 2 := ⟨_, rfl⟩
                  rw [← hG2] at hgl hq1 hq2 hq3
                  have hne : ((G2 : Int) != (G2 : Int)) = false := by simp
                  have QG : Hid (Calls Try.prog 17 #[.pointer (some ⟨H, 0, none⟩)] wr fun r w' => ∃ ga gc, r = .returned (.slice ga G2 gc) ∧ Below wr.heap.size wr w') := by
                    refine (gaps_any wr H s v HW.out.own.hat (by omega)).mono ?_
                    rintro e w' ⟨u, rfl, q1, q2⟩
                    obtain ⟨ga, gc, rfl⟩ := owns_shape q1
                    rw [hgl]
                    exact ⟨ga, gc, rfl, q2⟩
                  clear hik hgl hG2
                  go_wp2_with fail
                  refine Calls.mono QG.out ?_
                  rintro e wg ⟨ga, gc, rfl, hbg⟩
                  clear QG
                  go_wp2
                  go_meet
                  exact ⟨rfl, hbg⟩
                · have e1 : ((i : Int) == (K : Int)) = false := by rw [beq_eq_false_iff_ne]; omega
                  clear hik
                  go_wp2
                  go_meet
                  exact ⟨rfl, Below.refl _ _⟩
              case rest =>
                obtain ⟨rfl, hbx⟩ := hcut
                obtain ⟨w4, hw4⟩ : ∃ w4, w4 = wc := ⟨_, rfl⟩
                rw [← hw4] at hbx ⊢
                clear hw4
                have HW4 : Hid (HM w3 H db N sz K i (CI K i) s v w4) := HW.out.below hbx
                clear HW hbx
                obtain ⟨j, hj⟩ : ∃ j, j = jI K i := ⟨_, rfl⟩
                have HJJ : Hid (j = jI K i) := hj
                have hjb : j ≤ 300000 := by rw [hj]; unfold jI; split <;> omega
                clear hj
                go_upto_region 19 with fail
                go_cut [83] (fun x wx => x = .bool (decide (K ≤ i)) ∧ w4 = wx)
                case first =>
                  by_cases hik : K ≤ i
                  · have e1 : (K : Int) ≤ (i : Int) := by omega
                    have HD : Hid (decide (K ≤ i) = true) := decide_eq_true hik
                    clear hik
                    go_wp2
                    go_meet
                    exact ⟨by rw [HD.out], rfl⟩
                  · have e1 : ¬ (K : Int) ≤ (i : Int) := by omega
                    have HD : Hid (decide (K ≤ i) = false) := decide_eq_false hik
                    clear hik
                    go_wp2
                    go_meet
                    exact ⟨by rw [HD.out], rfl⟩
                case rest =>
                  obtain ⟨rfl, rfl⟩ := hcut
                  go_upto_if 83 with fail
                  go_cut [12] (fun x wx => x = .int .i64 (j : Int) ∧ w4 = wx)
                  case first =>
                    by_cases hik : K ≤ i
                    · rw [decide_eq_true hik]
                      have HJ2 : Hid (j = 2 * (2 * K - 1 - i)) := by show _ = _; rw [HJJ.out]; unfold jI; rw [if_neg (by omega)]
                      have wa : IntKind.i64.wrap (2 * (K : Int) - 1) = 2 * (K : Int) - 1 := by rw [IntKind.wrap_i64]; omega
                      have wb : IntKind.i64.wrap (2 * (K : Int) - 1 - (i : Int)) = 2 * (K : Int) - 1 - (i : Int) := by rw [IntKind.wrap_i64]; omega
                      have wcc : IntKind.i64.wrap (2 * (2 * (K : Int) - 1 - (i : Int))) = (j : Int) := by rw [IntKind.wrap_i64]; have := HJ2.out; omega
                      have HJ3 : Hid (2 * (2 * (K : Int) - 1 - (i : Int)) = (j : Int)) := by show _ = _; have := HJ2.out; omega
                      clear hik
                      go_wp2
                      go_meet
                      exact ⟨by first | rfl | (rw [HJ3.out]), rfl⟩
                    · rw [decide_eq_false hik]
                      have HJ2 : Hid (2 * (i : Int) + 1 = (j : Int)) := by show _ = _; rw [HJJ.out]; unfold jI; rw [if_pos (by omega)]; omega
                      clear hik
                      go_wp2
                      go_meet
                      exact ⟨by first | rfl | (rw [HJ2.out]), rfl⟩
                  case rest =>
                    obtain ⟨rfl, rfl⟩ := hcut
                    by_cases hjk : K ≤ j
                    · have e1 : (K : Int) ≤ (j : Int) := by omega
                      have HW5 : Hid (HM w3 H db N sz K (i + 1) (CI K (i + 1)) s v w4) := by
                        have hsk := fun q (hq : q < K) => CI_skip (k := K) (i := i) hi2 (by rw [← HJJ.out]; exact hjk) q hq
                        have hh := HW4.out
                        refine ⟨⟨hh.own.hat, hh.own.inv, hh.own.mx, Nat.le_succ_of_le hh.own.tk, hh.own.lo, hh.own.bel⟩, hh.pst.congr (by rw [szs_len]; exact HZS.out.k1) (fun q hq => (hsk q (by rw [szs_len] at hq; exact hq)).symm), ?_⟩
                        rw [hB_congr K hsk]
                        exact hh.sum
                      have HHB : Hid (hB (szs N sz K) (CI K (i + 1)) K = hv) := by
                        show _ = _
                        rw [hB_congr K (fun q (hq : q < K) => CI_skip (k := K) (i := i) hi2 (by rw [← HJJ.out]; exact hjk) q hq)]
                        exact HHV.out
                      clear HW4 hjk
                      go_wp2
                      go_roundw
                      case rel => exact ⟨i + 1, s, v, by omega, by go_num, by rw [HHB.out], HW5⟩
                      case measure => simp [intOf]; omega
                    · have hjk2 : j < K := by omega
                      have e1 : ¬ (K : Int) ≤ (j : Int) := by omega
                      clear hjk
                      as_aux_lemma =>
                        obtain ⟨o, ho⟩ : ∃ o, o = j * sz := ⟨_, rfl⟩
                        obtain ⟨o1, ho1⟩ : ∃ o1, o1 = (j + 1) * sz := ⟨_, rfl⟩
                        have e1o : o1 = o + sz := by rw [ho1, ho, Nat.add_mul, Nat.one_mul]
                        have hoN : o < N := by rw [ho]; exact HZS.out.lt j hjk2
                        obtain ⟨te, hto⟩ : ∃ te, te = min N o1 := ⟨_, rfl⟩
                        obtain ⟨n, hn⟩ : ∃ n, n = te - o := ⟨_, rfl⟩
                        have hn1 : 1 ≤ n := by have := HZS.out.s1; omega
                        have hto2 : te = o + n := by omega
                        have htoN : te ≤ N := by omega
                        have QP : Hid (Calls Try.prog 13 #[.pointer (some ⟨H, 0, none⟩), .int .i64 (o : Int), .slice (some ⟨db, o, none⟩) n (N - o), .bool (decide (te < N))] w4 fun r w' => r = .returned (.tuple #[.agg #[.int .i64 (n : Int), .int .i64 0, .bool false], .int .i64 0]) ∧ ∃ s' v', HM w3 H db N sz K (i + 1) (CI K (i + 1)) s' v' w') := by
                          have hno : CI K i j = false := by rw [HJJ.out]; exact CI_no hi2
                          have hn9 : n = min N ((j + 1) * sz) - j * sz := by rw [← ho1, ← ho, ← hto]; exact hn
                          have hm9 : decide (te < N) = decide (o + n < N) := by rw [hto2]
                          have this := HW4.out.put (o := o) (n := n) (more := decide (te < N)) (by omega) hN5 HZS.out hdb HSG.out j hjk2 ho hn9 hm9
                          have e0 : (if CI K i j = true then 0 else n) = n := by rw [hno]; rfl
                          rw [e0, hno, Int.sub_self] at this
                          refine this.mono ?_
                          rintro e w' ⟨rfl, _, s', v', hh⟩
                          have hcc := fun q (hq : q < K) => CI_yes (k := K) (i := i) hi2 q hq
                          refine ⟨rfl, s', v', hh.own, hh.pst.congr (by rw [szs_len]; exact HZS.out.k1) (fun q hq => by rw [hcc q (by rw [szs_len] at hq; exact hq), HJJ.out]), ?_⟩
                          rw [hB_congr K hcc, ← HJJ.out]
                          exact hh.sum
                        have HHB : Hid (hB (szs N sz K) (CI K (i + 1)) K = hv + n) := by
                          show _ = _
                          have hno : CI K i j = false := by rw [HJJ.out]; exact CI_no hi2
                          have hcc := fun q (hq : q < K) => CI_yes (k := K) (i := i) hi2 q hq
                          rw [hB_congr K hcc, ← HJJ.out, hB_upd _ (CI K i) j hno K hjk2, HHV.out, szs_at N sz K j hjk2, ← ho1, ← ho, ← hto, ← hn]
                        have hj1 : (j : Int) * (sz : Int) = (o : Int) := by rw [ho, Int.natCast_mul]
                        have hj2 : ((j : Int) + 1) * (sz : Int) = (o1 : Int) := by rw [ho1, Int.natCast_mul, Int.natCast_add, Int.natCast_one]
                        have hj3 : ((j + 1 : Nat) : Int) * (sz : Int) = (o1 : Int) := by rw [ho1, Int.natCast_mul]
                        have ho5 : o1 ≤ 200000 := by omega
                        have v1 : IntKind.i64.wrap ((j : Int) + 1) = (j : Int) + 1 := by rw [IntKind.wrap_i64]; omega
                        have v2 : IntKind.i64.wrap (((j : Int) + 1) * (sz : Int)) = (o1 : Int) := by rw [hj2, IntKind.wrap_i64]; omega
                        have v3 : IntKind.i64.wrap ((j : Int) * (sz : Int)) = (o : Int) := by rw [hj1, IntKind.wrap_i64]; omega
                        have v4 : IntKind.i64.wrap ((o1 : Int)) = (o1 : Int) := by rw [IntKind.wrap_i64]; omega
                        have v5 : IntKind.i64.wrap ((o : Int)) = (o : Int) := by rw [IntKind.wrap_i64]; omega
                        have HTO : Hid (te = min N o1) := hto
                        have HTO2 : Hid (te = o + n) := hto2
                        have hot : o < te := by omega
                        have hte2 : te ≤ 65535 := by omega
                        clear ho ho1 hto e1o hto2 hj3
                        go_upto_region 22 with fail
                        go_cut [13] (fun x wx => x = .int .i64 (te : Int) ∧ w4 = wx)
                        case first =>
                          by_cases hq : o1 < N
                          · have e5 : (o1 : Int) < (N : Int) := by omega
                            have HT2 : Hid ((te : Int) = (o1 : Int)) := by show _ = _; have := HTO.out; omega
                            clear hq
                            go_wp2
                            go_meet
                            exact ⟨by rw [HT2.out], rfl⟩
                          · have e5 : ¬ (o1 : Int) < (N : Int) := by omega
                            have HT2 : Hid ((te : Int) = (N : Int)) := by show _ = _; have := HTO.out; omega
                            clear hq
                            go_wp2
                            go_meet
                            exact ⟨by rw [HT2.out], rfl⟩
                        case rest =>
                          obtain ⟨rfl, rfl⟩ := hcut
                          have e6 : decide ((te : Int) < (N : Int)) = decide (te < N) := by congr 1; exact propext (by omega)
                          have e7 : te - o = n := hn.symm
                          have HE7 : Hid (te - o = n) := e7
                          have HE6 : Hid (decide ((te : Int) < (N : Int)) = decide (te < N)) := e6
                          clear hn e7 e6 HW4
                          go_wp2_with fail
                          (try rw [HE7.out])
                          (try rw [HE6.out])
                          refine Calls.mono QP.out ?_
                          rintro e5 w5 ⟨rfl, s', v', hm'⟩
                          have HM5 : Hid (HM w3 H db N sz K (i + 1) (CI K (i + 1)) s' v' w5) := hm'
                          have x1 : IntKind.i64.wrap ((hv : Int) + (te : Int)) = (hv : Int) + (te : Int) := by rw [IntKind.wrap_i64]; omega
                          have x2 : IntKind.i64.wrap ((hv : Int) + (te : Int) - (o : Int)) = ((hv + n : Nat) : Int) := by rw [IntKind.wrap_i64]; have := HTO2.out; omega
                          have x3 : IntKind.i64.wrap ((te : Int) - (o : Int)) = (n : Int) := by rw [IntKind.wrap_i64]; have := HTO2.out; omega
                          have x4 : ((n : Int) != (n : Int)) = false := by simp
                          have x5 : (((hv + n : Nat) : Int) != ((hv + n : Nat) : Int)) = false := by simp
                          have HHD : Hid (((s'.bd : Int) - (sm s'.gp : Int)) = ((hv + n : Nat) : Int)) := by
                            show _ = _
                            have h1 := HM5.out.sum
                            rw [HHB.out] at h1
                            omega
                          have QH : Hid (∀ A : World, HAt A H s' v' → Calls Try.prog 19 #[.pointer (some ⟨H, 0, none⟩)] A fun r w' => r = .returned (.int .i64 ((hv + n : Nat) : Int)) ∧ Below A.heap.size A w') := by
                            intro A hA
                            rw [← HHD.out]
                            exact held_any A H s' v' hA HM5.out.own.inv
                          have QW : Hid (∀ A : World, HAt A H s' v' → Calls Try.prog 15 #[.pointer (some ⟨H, 0, none⟩)] A fun r w' => r = .returned (.bool (decide (hv + n = N))) ∧ A = w') := by
                            intro A hA
                            have := whole_any A H s' v' hA
                            have e9 : decide (0 < s'.en ∧ s'.gp = []) = decide (hv + n = N) := by
                              congr 1
                              apply propext
                              refine (HM5.out.pst.whole (by rw [mD_len]; exact HZS.out.cut) (by rw [mD_len]; exact HZS.out.n1) (by rw [szs_len]; exact HZS.out.k1)).trans ?_
                              rw [szs_len]
                              have h1 := hB_all HZS.out.cut (CI K (i + 1)) K (by rw [szs_len]; exact Nat.le_refl _)
                              rw [HHB.out] at h1
                              have h2 := HZS.out.cut.sum
                              have h3 := ofs_len (szs N sz K)
                              rw [szs_len, h2] at h3
                              rw [h3] at h1
                              exact h1.symm
                            rw [e9] at this
                            exact this
                          have HFN : Hid (FtAt (w5.alloc (.cells #[.int .i64 (n : Int), .int .i64 0, .bool false] 33)) w5.heap.size #[.int .i64 (n : Int), .int .i64 0, .bool false]) := FtAt_new _ _
                          clear QP hm'
                          go_upto_region 24 with fail
                          obtain ⟨F, hF⟩ : ∃ F, F = w5.heap.size := ⟨_, rfl⟩
                          obtain ⟨w6, hw6⟩ : ∃ w6, w6 = w5.alloc (.cells #[.int .i64 (n : Int), .int .i64 0, .bool false] 33) := ⟨_, rfl⟩
                          have hb6 : Below w5.heap.size w5 w6 := by rw [hw6]; exact (Below.refl _ _).alloc (Nat.le_refl _) _
                          have HM6 : Hid (HM w3 H db N sz K (i + 1) (CI K (i + 1)) s' v' w6) := HM5.out.below hb6
                          rw [← hF, ← hw6] at HFN
                          rw [← hF, ← hw6]
                          have f0 : w6.cell? ⟨F, 0, none⟩ = some (.int .i64 (n : Int)) := FtAt.cell HFN.out 0
                          have f1 : w6.cell? ⟨F, 1, none⟩ = some (.int .i64 0) := FtAt.cell HFN.out 1
                          have f2 : w6.cell? ⟨F, 2, none⟩ = some (.bool false) := FtAt.cell HFN.out 2
                          clear hF hw6 hb6 HFN HM5
                          go_wp2_with fail
                          refine Calls.mono (QH.out _ HM6.out.own.hat) ?_
                          rintro e7 w7 ⟨rfl, hb7⟩
                          have HM7 : Hid (HM w3 H db N sz K (i + 1) (CI K (i + 1)) s' v' w7) := HM6.out.below hb7
                          clear QH hb7 HM6 f0 f1 f2
                          go_wp2_with fail
                          refine Calls.mono (QW.out _ HM7.out.own.hat) ?_
                          rintro e8 w8 ⟨rfl, rfl⟩
                          clear QW
                          by_cases hq : hv + n = N
                          · have hq2 : (((hv + n : Nat) : Int) == (N : Int)) = true := by rw [hq]; simp
                            have hq3 : (((hv : Int) + (n : Int)) == (N : Int)) = true := by rw [beq_iff_eq]; omega
                            rw [decide_eq_true hq]
                            clear hq
                            go_wp2
                            go_roundw
                            case rel => exact ⟨i + 1, s', v', by omega, by go_num, by rw [HHB.out]; first | rfl | simp, HM7⟩
                            case measure => simp [intOf]; omega
                          · have hq2 : (((hv + n : Nat) : Int) == (N : Int)) = false := by rw [beq_eq_false_iff_ne]; omega
                            have hq3 : (((hv : Int) + (n : Int)) == (N : Int)) = false := by rw [beq_eq_false_iff_ne]; omega
                            rw [decide_eq_false hq]
                            clear hq
                            go_wp2
                            go_roundw
                            case rel => exact ⟨i + 1, s', v', by omega, by go_num, by rw [HHB.out]; first | rfl | simp, HM7⟩
                            case measure => simp [intOf]; omega

end Go.Proofs.Ythlnmonmbldcdaa
