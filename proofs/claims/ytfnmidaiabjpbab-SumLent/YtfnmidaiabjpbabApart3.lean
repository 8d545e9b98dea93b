/-
  Apart: lists that lie apart come out true.
-/
import Derived.Test.YtfnmidaiabjpbabApart2
import Derived.Deep.DeepCutAuto
import Derived.Test.YtfnmidaiabjpbabMix
namespace Go.Proofs.Ytfnmidaiabjpbab.Ap
open Go.RowKit

theorem form {w : World} {B : Nat} {v : Value} {n : Nat} {l : List Nat} (h : OwnB w B v n l) (hn : 0 < n) : ∃ g c, v = .slice (some ⟨g, 0, none⟩) n c ∧ B ≤ g ∧ g < w.heap.size := by
  rcases h.2 with ⟨_, h0⟩ | ⟨g, cap, cur, rfl, hg, hh, r⟩
  · omega
  · exact ⟨g, cap, rfl, hg, (Array.getElem?_eq_some_iff.1 hh).1⟩
theorem w64_add (a b : Nat) (ha : a ≤ 1099511627776) (hb : b ≤ 1099511627776) : wrap64 ((a : Int) + (b : Int)) = (a : Int) + (b : Int) := by unfold wrap64; omega
theorem i64_add (a b : Nat) (ha : a ≤ 1099511627776) (hb : b ≤ 1099511627776) : IntKind.i64.wrap ((a : Int) + (b : Int)) = (a : Int) + (b : Int) := by rw [IntKind.wrap_i64]; omega
theorem n_add (a b : Nat) (ha : a ≤ 1099511627776) (hb : b ≤ 1099511627776) : a + b ≤ 9223372036854775807 := by omega
theorem n_one (a : Nat) (ha : a ≤ 1099511627776) : a ≤ 9223372036854775807 := by omega
theorem toI_set' (l : List Nat) (i x : Nat) : ((toI l).map (Value.int .u8)).set i (.int .u8 (x : Int)) = (toI (l.set i x)).map (Value.int .u8) := by
  simp [toI, List.map_set]
set_option maxHeartbeats 3200000 in
set_option maxRecDepth 100000 in
theorem apart_any (n lb off cp B : Nat) (A : Nat → Option Addr) (C M : Nat → Nat) (L : Nat → List Nat) (w : World) (HS : Hid (Still n lb B A C M w)) (H0 : Hid (L1 n lb off B A C M L w w)) (htot : tot M n ≤ 1099511627776) (hn : n ≤ 1099511627776) :
    Calls Try.prog 23 #[.slice (some ⟨lb, off, none⟩) n cp] w fun e w' => e = .returned (.bool true) ∧ Below B w w' := by
  obtain ⟨i0, hi, hz0, hz1, hz2⟩ := info_parts Try.infoByte
  obtain ⟨j0, hj, hy0, hy1, hy2⟩ := info_parts infoBytes
  have HT : Hid (tot M n ≤ 1099511627776) := htot
  clear htot
  go_enter Try.func23, Try.ntmps23
  go_wp2
  go_loopw [3, 4] (fun t ix wr => ∃ k T : Nat, k ≤ n ∧ t = .int .i64 T ∧ ix = .int .i64 k ∧ Hid (T = tot M k) ∧ T ≤ 1099511627776 ∧ Hid (L1 n lb off B A C M (mkd M L k) w wr)) (fun _ ix _ => n - (intOf ix).toNat)
  case atStart => exact ⟨0, 70, Nat.zero_le _, rfl, rfl, rfl, by omega, by
    have e : mkd M L 0 = L := by funext j; simp [mkd]
    rw [e]; exact H0⟩
  case round =>
    obtain ⟨i, T, hin, rfl, rfl, HTI, hT, HI⟩ := hrel
    by_cases hlt : i < n
    · have hrow := HI.out.row i hlt
      have ho := HI.out.own i hlt
      have hMi : T + M i ≤ 1099511627776 := by
        have h1 := HT.out
        have h2 := tot_mono M (show i + 1 ≤ n from hlt)
        have h3 := HTI.out
        simp only [tot] at h2
        omega
      have HF : Hid (mkd M L i i = L i) := by show _ = _; simp [mkd]
      have hlL : (L i).length = M i := by rw [← HF.out]; exact ho.len
      rw [HF.out] at ho
      have HEQ : Hid (∀ ai mi ci, A i = ai → M i = mi → C i = ci → vv A C M i = .slice ai mi ci) := fun _ _ _ h1 h2 h3 => by rw [vv, h1, h2, h3]
      obtain ⟨ai, hai⟩ : ∃ x, x = A i := ⟨_, rfl⟩
      obtain ⟨mi, hmi⟩ : ∃ x, x = M i := ⟨_, rfl⟩
      obtain ⟨ci, hci⟩ : ∃ x, x = C i := ⟨_, rfl⟩
      obtain ⟨li, hli⟩ : ∃ x, x = L i := ⟨_, rfl⟩
      have HV : Hid (vv A C M i = .slice ai mi ci) := HEQ.out ai mi ci hai.symm hmi.symm hci.symm
      have HMI : Hid (M i = mi) := hmi.symm
      have HLI : Hid (L i = li) := hli.symm
      rw [HV.out] at hrow ho
      rw [← hmi] at hMi ho hlL
      rw [← hli] at ho hlL
      have HLL : Hid (li.length = mi) := hlL
      clear hai hmi hci hli hlL HEQ
      obtain ⟨x, hx⟩ : ∃ x, x = mark i := ⟨_, rfl⟩
      have HX : Hid (mark i = x) := hx.symm
      have hx2 : IntKind.u8.wrap ((i : Int) % 200 + 40) = (x : Int) := by
        rw [hx]; simp [mark, IntKind.wrap, IntKind.bits, IntKind.signed]; omega
      clear hx
      obtain ⟨wi, hwi⟩ : ∃ wi, wi = wr := ⟨_, rfl⟩
      rw [← hwi] at HI hrow ho ⊢
      clear hwi
      go_wp2
      go_loopw [5] (fun ix wq => ∃ k : Nat, k ≤ mi ∧ ix = .int .i64 k ∧ OwnB wq B (.slice ai mi ci) mi (full x k li) ∧ wi.grownBy wq (Value.slice ai mi ci).ownBlock) (fun ix _ => mi - (intOf ix).toNat)
      case atStart => exact ⟨0, Nat.zero_le _, rfl, by rw [full_zero]; exact ho, World.grownBy.refl _ _⟩
      case round =>
        obtain ⟨k, hk, rfl, hq, hgq⟩ := hrel
        have hnlb := HS.out.nlb i hlt
        rw [HV.out] at hnlb
        have hrow' := hgq.cell hrow (fun e => hnlb e.symm)
        by_cases hlk : k < mi
        · obtain ⟨g, c', e2, hgB, hgs⟩ := Ap.form hq (by omega)
          simp only [Value.slice.injEq, true_and] at e2
          obtain ⟨rfl, rfl⟩ := e2
          have hl := hq.len
          have cc : wr.cell? ⟨g, k, none⟩ = some (.int .u8 (((full x k li).getD k 0 : Nat) : Int)) := by
            rw [hq.cellAt k (by omega)]; simp [toI, List.getD, show k < (full x k li).length by omega]
          have ff := hq.frozenAt k
          have hst := hq.stored k (.int .u8 (x : Int))
          rw [toI_set', full_set x k _ (by rw [HLL.out]; exact hlk)] at hst
          have HST : Hid (_ ∧ _) := hst
          obtain ⟨q, hq'⟩ : ∃ q, q = (full x k li).getD k 0 := ⟨_, rfl⟩
          rw [← hq'] at cc
          have HGQ : Hid _ := hgq
          have hb1 : k < mi := hlk
          clear hst hq' hl hq ho hrow hgq hnlb
          go_wp2
          go_roundw
          case rel => exact ⟨k + 1, by omega, by go_num, HST.out.1, gtrans HGQ.out HST.out.2⟩
          case measure => simp [intOf]; omega
        · have hkm : k = mi := by omega
          have hq2 : OwnB wr B (.slice ai mi ci) mi (rp mi x) := by rw [hkm, full_all x mi li HLL.out] at hq; exact hq
          have HN : Hid (L1 n lb off B A C M (mkd M L (i + 1)) w wr) := by
            refine L1.step HI.out HS.out hlt ?_ (by rw [HV.out]; exact hgq) (fun j hj => ?_)
            · have e : mkd M L (i + 1) i = rp mi x := by simp [mkd, HX.out, HMI.out]
              rw [e, HV.out, HMI.out]; exact hq2
            · simp only [mkd]
              by_cases h1 : j < i
              · rw [if_pos h1, if_pos (by omega)]
              · rw [if_neg h1, if_neg (by omega)]
          have HT2 : Hid (T + mi = tot M (i + 1)) := by show _ = _; rw [tot, HMI.out, HTI.out]
          clear hq hq2 hgq hrow ho hnlb hkm
          go_wp2
          go_roundw
          case rel => exact ⟨i + 1, T + mi, by omega, by go_num, by go_num, HT2, hMi, HN⟩
          case measure => simp [intOf]; omega
    · have hin' : i = n := by omega
      have HL : Hid (L2 n lb off B A C M T 0 (fun _ => .slice none 0 0) w wr) := by
        have h := HI.out
        refine ⟨h.row, fun j _ hj => ?_, fun j hj => by omega, fun j hj => by omega, fun j _ hj => by omega, h.bel⟩
        have := h.own j hj
        rw [show mkd M L i j = rp (M j) (mark j) by simp only [mkd]; rw [if_pos (by omega)]] at this
        exact this
      have HTN : Hid (T = tot M n) := by rw [← hin']; exact HTI
      clear hin' HI HTI
      go_wp2
      go_loopw [6, 7] (fun lv ix wr => ∃ (k : Nat) (G : Nat → Value), k ≤ n ∧ ix = .int .i64 k ∧ wr.ownsRow w.heap.size 24 1 lv k ((List.range k).map G) ∧ Hid (L2 n lb off B A C M T k G w wr)) (fun _ ix _ => n - (intOf ix).toNat)
      case atStart => exact ⟨0, fun _ => .slice none 0 0, Nat.zero_le _, rfl, World.ownsRow_nil _ _ _ _, HL⟩
      case round =>
        obtain ⟨i, G, hin2, rfl, hlong, HI⟩ := hrel
        clear HL hlt hin
        by_cases hlt : i < n
        · have hrow := HI.out.row i hlt
          have ho := HI.out.own i (Nat.le_refl _) hlt
          have hMi : mi0 M i ≤ 1099511627776 := Nat.le_trans (len_le M hlt) HT.out
          simp only [mi0] at hMi
          have hBs : B ≤ w.heap.size := HS.out.size
          have hws : w.heap.size ≤ wr.heap.size := HI.out.bel.size
          have HEQ : Hid (∀ ai mi ci, A i = ai → M i = mi → C i = ci → vv A C M i = .slice ai mi ci) := fun _ _ _ h1 h2 h3 => by rw [vv, h1, h2, h3]
          have hhd := HS.out.head i hlt
          have hbs := HS.out.base i hlt
          obtain ⟨ai, hai⟩ : ∃ x, x = A i := ⟨_, rfl⟩
          obtain ⟨mi, hmi⟩ : ∃ x, x = M i := ⟨_, rfl⟩
          obtain ⟨ci, hci⟩ : ∃ x, x = C i := ⟨_, rfl⟩
          have HV : Hid (vv A C M i = .slice ai mi ci) := HEQ.out ai mi ci hai.symm hmi.symm hci.symm
          have HMI : Hid (M i = mi) := hmi.symm
          have HAI : Hid (A i = ai) := hai.symm
          rw [HV.out] at hrow ho hbs
          rw [← hmi] at hMi ho
          rw [← hai] at hhd
          obtain ⟨x, hx⟩ : ∃ x, x = mark i := ⟨_, rfl⟩
          rw [← hx] at ho
          have HX : Hid (mark i = x) := hx.symm
          have hx2 : IntKind.u8.wrap ((i : Int) % 200 + 40) = (x : Int) := by
            rw [hx]; simp [mark, IntKind.wrap, IntKind.bits, IntKind.signed]; omega
          have HHD : Hid (∀ y, ai = some y → y = ⟨y.block, 0, none⟩) := hhd
          have HBS : Hid (∀ q, (Value.slice ai mi ci).ownBlock = some q → B ≤ q ∧ q < w.heap.size) := hbs
          clear hx hai hmi hci HEQ hhd hbs
          obtain ⟨wi, hwi⟩ : ∃ wi, wi = wr := ⟨_, rfl⟩
          rw [← hwi] at HI hrow ho hws hlong ⊢
          clear hwi
          go_wp2
          go_loopw [8, 9] (fun gv ix wq => ∃ k : Nat, k ≤ T ∧ ix = .int .i64 k ∧ OwnB wq B gv (mi + k) (rp (mi + k) x) ∧ Hid (Inn wi wq ai mi ci x gv)) (fun _ ix _ => T - (intOf ix).toNat)
          case atStart => exact ⟨0, Nat.zero_le _, rfl, ho, Inn.start ho HHD.out⟩
          case round =>
            obtain ⟨k, hk, rfl, hq, HN⟩ := hrel
            by_cases hlk : k < T
            · have hsz := HN.out.grow.size
              clear ho hrow
              go_wp2_with (first | (at_builtin; refine append_split rfl (.tmp 58) (.tmp 63) 24 rfl B 5 i0 (.int .u8 0) 1 Try.underlying24 hi hz0 hz1 hz2 rfl _ _ _ rfl (hq.alloc _) ⟨wr.heap.size, 0, none⟩ 1 1 [.int .u8 x] rfl rfl ?c1 ?c2 ?c3 ?c4 ?c5 ?_))
              case c1 => exact cell_one_new _ _ _
              case c2 => intro u hu; simp at hu; subst hu; rfl
              case c3 => unfold maxLen; omega
              case c4 => omega
              case c5 => simp; omega
              intro v6 w6 ho6' hsp
              have ho6 : OwnB w6 B v6 (mi + (k + 1)) (rp (mi + (k + 1)) x) := by
                rw [OwnB, show mi + (k + 1) = (mi + k) + 1 by omega, ← rp_succ]; exact ho6'
              have HN6 : Hid (Inn wi w6 ai mi ci x v6) := HN.out.step (o := .cells #[.int .u8 (x : Int)] 5) ho6 (by omega) (by simpa using hsp)
              clear hsp ho6' hq HN
              go_wp2
              go_roundw
              case rel => exact ⟨k + 1, by omega, by go_num, ho6, HN6⟩
              case measure => simp [intOf]; omega
            · have hkT : k = T := by omega
              rw [hkT] at hq
              obtain ⟨a8, c8, rfl⟩ := owns_shape hq
              obtain ⟨u8, hu8⟩ : ∃ u, u = Value.slice a8 (mi + T) c8 := ⟨_, rfl⟩
              rw [← hu8] at hq HN
              have HI2 : Hid (L2 n lb off B A C M T (i + 1) (fun j => if j = i then u8 else G j) w wr) := by
                refine HI.out.step HS.out hlt u8 ?_ ?_ ?_ ?_
                · rw [HMI.out, HX.out]; exact hq
                · rw [HMI.out, HX.out, HAI.out]; exact HN.out.rd
                · rw [HV.out]; exact HN.out.grow
                · rw [HV.out]; exact HN.out.at'
              have hlong2 : wr.ownsRow w.heap.size 24 1 u6 i ((List.range i).map G) := hlong.kept HN.out.grow (by
                cases hv : u6.ownBlock with
                | none => exact .inl rfl
                | some q =>
                  refine .inr (fun e => ?_)
                  have h1 := (hlong.lt q hv).1
                  have h2 := (HBS.out q e.symm).2
                  omega)
              have hsz := HN.out.grow.size
              have hmap : (List.range i).map G ++ [u8] = (List.range (i + 1)).map (fun j => if j = i then u8 else G j) := by
                rw [List.range_succ, List.map_append]
                congr 1
                · refine List.map_congr_left (fun j hj => ?_)
                  rw [List.mem_range] at hj
                  rw [if_neg (by omega)]
                · simp
              have HMAP : Hid _ := hmap
              obtain ⟨G2, hG2⟩ : ∃ G2, G2 = (fun j => if j = i then u8 else G j) := ⟨_, rfl⟩
              rw [← hG2] at HI2 HMAP
              clear hmap hG2 hlong ho hrow hq HN HI
              obtain ⟨xs, hxs⟩ : ∃ xs, xs = (List.range i).map G := ⟨_, rfl⟩
              rw [← hxs] at hlong2 HMAP
              rw [hu8] at HMAP
              clear hxs hu8
              go_wp2_with (first | (at_builtin; refine wpList_append_own _ rfl (.tmp 65) (.tmp 67) 22 rfl w.heap.size 24 j0 (.slice none 0 0) 1 24 Try.underlying22 hj hy0 hy1 hy2 rfl (by decide) _ _ _ rfl (hlong2.alloc _) ⟨wr.heap.size, 0, none⟩ 1 1 [.slice a8 (mi + T) c8] rfl rfl ?c1 ?c2 ?c3 ?c4 ?c5 ?_))
              case c1 => exact cell_one_new _ _ _
              case c2 => intro u hu; simp at hu; subst hu; rfl
              case c3 => unfold maxLen; omega
              case c4 => omega
              case c5 => simp; omega
              intro v6 w6 ho6 hg6 _
              rw [HMAP.out] at ho6
              have HI3 : Hid (L2 n lb off B A C M T (i + 1) G2 w w6) := by
                have hal := HI2.out.alloc HS.out (.cells #[.slice a8 (mi + T) c8] 24)
                exact hal.long HS.out (hlong2.alloc _) hg6
              clear hg6 hlong2 HI2
              go_wp2
              go_roundw
              case rel => exact ⟨i + 1, G2, by omega, by go_num, ho6, HI3⟩
              case measure => simp [intOf]; omega
        · have hin' : i = n := by omega
          subst hin'
          clear hlt hin2
          obtain ⟨la, lc, rfl⟩ := owns_shape hlong
          have hfin := HI.out.bel
          have hTp : T = T := rfl
          go_wp2
          have hBw : B ≤ wr.heap.size := Nat.le_trans HS.out.size hfin.size
          obtain ⟨wz, hwz⟩ : ∃ wz, wz = wr := ⟨_, rfl⟩
          rw [← hwz] at HI hlong hfin hBw ⊢
          clear hwz
          go_loopw [10] (fun ix wq => ∃ k : Nat, k ≤ i ∧ ix = .int .i64 k ∧ Below wz.heap.size wz wq) (fun ix _ => i - (intOf ix).toNat)
          case atStart => exact ⟨0, Nat.zero_le _, rfl, Below.refl _ _⟩
          case round =>
            obtain ⟨k, hk, rfl, hbq⟩ := hrel
            by_cases hlk : k < i
            · have hrow := HI.out.row k hlk
              have hlon := HI.out.lon k hlk
              have hrd := (HI.out.rd k hlk).seg
              have hMk : mi0 M k ≤ 1099511627776 := Nat.le_trans (len_le M hlk) HT.out
              simp only [mi0] at hMk
              obtain ⟨g, c', e2⟩ : ∃ g c', Value.slice la i lc = .slice (some ⟨g, 0, none⟩) i c' := by
                rcases hlong.2 with ⟨_, h0⟩ | ⟨g, cap, cur, h1, _⟩
                · omega
                · exact ⟨g, cap, h1⟩
              simp only [Value.slice.injEq, true_and] at e2
              obtain ⟨rfl, rfl⟩ := e2
              have hcl := hlong.cellAt k (by omega)
              rw [show ((List.range i).map G)[k]? = some (G k) by simp [hlk]] at hcl
              obtain ⟨gk, hgk⟩ : ∃ x, x = G k := ⟨_, rfl⟩
              rw [← hgk] at hcl hlon
              obtain ⟨a8, c8, rfl⟩ := owns_shape hlon
              have hrow2 : wz.cell? ⟨lb, off + k, none⟩ = some (.slice (A k) (M k) (C k)) := hrow
              obtain ⟨ak, hak⟩ : ∃ x, x = A k := ⟨_, rfl⟩
              obtain ⟨mk, hmk⟩ : ∃ x, x = M k := ⟨_, rfl⟩
              obtain ⟨ck, hck⟩ : ∃ x, x = C k := ⟨_, rfl⟩
              rw [← hak] at hrow2 hrd
              rw [← hmk] at hrow2 hrd hMk hlon hcl
              rw [← hck] at hrow2
              obtain ⟨x, hx⟩ : ∃ x, x = mark k := ⟨_, rfl⟩
              rw [← hx] at hlon hrd
              have hx2 : IntKind.u8.wrap ((k : Int) % 200 + 40) = (x : Int) := by
                rw [hx]; simp [mark, IntKind.wrap, IntKind.bits, IntKind.signed]; omega
              have hbA : Below wz.heap.size wz wr.drew := hbq.drew
              have hrowA := (hbA.cell (p := ⟨lb, off + k, none⟩) (World.block_lt_of_cell? wz _ hrow2)).trans hrow2
              have hclA := (hbA.cell (p := ⟨g, k, none⟩) (World.block_lt_of_cell? wz _ hcl)).trans hcl
              have HSG : Hid (Seg .u8 wr.drew a8 (toI (rp (mk + T) x))) := (owns_seg_at hlon).1.old hbA
              have HRD : Hid (Seg .u8 wr.drew ak (toI (rp mk x))) := hrd.old hbA
              have hne : (((mk : Int) + (T : Int)) != ((mk : Int) + (T : Int))) = false := by simp
              clear hx hak hmk hck hgk hrow hlon hrd hlong hrow2 hcl
              go_upto_region 23 with fail
              refine Mix.start (by kernel_rfl) ?_
              obtain ⟨wA, hwA⟩ : ∃ wA, wA = wr.drew := ⟨_, rfl⟩
              rw [← hwA] at hbA hrowA hclA HSG HRD ⊢
              clear hwA hbq
              have k0 : (0 : Int) ≤ (k : Int) := by omega
              have k1 : (k : Int) < (i : Int) := by omega
              have k2 : ((k : Int)).toNat = k := by omega
              have k3 : wrap64 ((mk : Int) + (T : Int)) = (mk : Int) + (T : Int) := w64_add mk T hMk hT
              have k4 : IntKind.i64.wrap ((mk : Int) + (T : Int)) = (mk : Int) + (T : Int) := i64_add mk T hMk hT
              refine Mix.take [true, true, true, false, true, true, true, true] 30 (by kernel_rfl) (by kernel_rfl) (by decide) (by kernel_rfl) (fun K hK => ?_)
              simp only [Mix.pick]
              repeat (go_big_quiet_step (fail))
              refine wpQuiet_nil (hK _ ?_)
              clear hK K
              refine Mix.one [false, false, false, true] 29 3 _ rfl rfl (by kernel_rfl) (by kernel_rfl) (fun K hK => ?_)
              simp only [Mix.pick]
              go_wp2
              refine ⟨rfl, hK _ _ ?_⟩
              clear hK K
              refine Mix.one [false, false, false, false, false, false, false, false, true] 28 8 _ rfl rfl (by kernel_rfl) (by kernel_rfl) (fun K hK => ?_)
              simp only [Mix.pick]
              go_wp2_with fail
              refine (full_any ak mk ck x _ HRD.out (n_one mk hMk)).mono ?_
              rintro e w5 ⟨rfl, rfl⟩
              go_wp2
              refine ⟨rfl, hK _ _ ?_⟩
              clear hK K
              refine Mix.take [false, false, false, false, false, false, false, false, false, true, true, true, true, true, false, true, true, true, true] 19 (by kernel_rfl) (by kernel_rfl) (by decide) (by kernel_rfl) (fun K hK => ?_)
              simp only [Mix.pick]
              repeat (go_big_quiet_step (fail))
              refine wpQuiet_nil (hK _ ?_)
              clear hK K
              refine Mix.one [false, false, false, false, false, false, false, false, false, false, false, false, false, false, true] 18 14 _ rfl rfl (by kernel_rfl) (by kernel_rfl) (fun K hK => ?_)
              simp only [Mix.pick]
              go_wp2
              refine ⟨rfl, hK _ _ ?_⟩
              clear hK K
              refine Mix.one [false, false, false, false, false, false, false, false, false, false, false, false, false, false, false, false, false, false, false, true] 17 19 _ rfl rfl (by kernel_rfl) (by kernel_rfl) (fun K hK => ?_)
              simp only [Mix.pick]
              go_wp2_with fail
              refine (full_any a8 (mk + T) c8 x _ HSG.out (n_add mk T hMk hT)).mono ?_
              rintro e w5 ⟨rfl, rfl⟩
              go_wp2
              refine ⟨rfl, hK _ _ ?_⟩
              clear hK K
              refine Mix.take [false, false, false, false, false, false, false, false, false, false, false, false, false, false, false, false, false, false, false, false, true, true, true, true, true, true, false, false, true, true, true, false, false, true] 7 (by kernel_rfl) (by kernel_rfl) (by decide) (by kernel_rfl) (fun K hK => ?_)
              simp only [Mix.pick]
              repeat (go_big_quiet_step (fail))
              refine wpQuiet_nil (hK _ ?_)
              clear hK K
              refine Mix.pair [false, false, false, false, false, false, false, false, false, false, false, false, false, false, false, false, false, false, false, false, false, false, false, false, false, false, true] [false, false, false, false, false, false, false, false, false, false, false, false, false, false, false, false, false, false, false, false, false, false, false, false, false, false, false, false, false, false, false, true] 6 26 31 _ _ rfl rfl rfl rfl (by kernel_rfl) (by kernel_rfl) (fun K hK => ?_) (fun K hK => ?_)
              · simp only [Mix.pick]
                go_wp2
                refine ⟨rfl, hK _ _ ?_⟩
                clear hK K
                refine Mix.take [false, false, false, false, false, false, false, false, false, false, false, false, false, false, false, false, false, false, false, false, false, false, false, false, false, false, false, true] 5 (by kernel_rfl) (by kernel_rfl) (by decide) (by kernel_rfl) (fun K hK => ?_)
                simp only [Mix.pick]
                repeat (go_big_quiet_step (fail))
                refine wpQuiet_nil (hK _ ?_)
                clear hK K
                refine Mix.one [false, false, false, false, false, false, false, false, false, false, false, false, false, false, false, false, false, false, false, false, false, false, false, false, false, false, false, false, false, false, false, true] 4 31 _ rfl rfl (by kernel_rfl) (by kernel_rfl) (fun K hK => ?_)
                simp only [Mix.pick]
                go_wp2
                refine ⟨rfl, hK _ _ ?_⟩
                clear hK K
                refine Mix.take [false, false, false, false, false, false, false, false, false, false, false, false, false, false, false, false, false, false, false, false, false, false, false, false, false, false, false, false, false, false, false, false, true, false, true, true, true] 0 (by kernel_rfl) (by kernel_rfl) (by decide) (by kernel_rfl) (fun K hK => ?_)
                simp only [Mix.pick]
                repeat (go_big_quiet_step (fail))
                refine wpQuiet_nil (hK _ ?_)
                clear hK K
                refine Mix.done (by kernel_rfl) ?_
                go_wp2
                go_roundw
                case rel => exact ⟨k + 1, by omega, by go_num, hbA⟩
                case measure => simp [intOf]; omega
              · simp only [Mix.pick]
                go_wp2
                refine ⟨rfl, hK _ _ ?_⟩
                clear hK K
                refine Mix.take [false, false, false, false, false, false, false, false, false, false, false, false, false, false, false, false, false, false, false, false, false, false, false, false, false, false, false, false, false, false, false, false, true, false, true] 4 (by kernel_rfl) (by kernel_rfl) (by decide) (by kernel_rfl) (fun K hK => ?_)
                simp only [Mix.pick]
                repeat (go_big_quiet_step (fail))
                refine wpQuiet_nil (hK _ ?_)
                clear hK K
                refine Mix.one [false, false, false, false, false, false, false, false, false, false, false, false, false, false, false, false, false, false, false, false, false, false, false, false, false, false, true] 3 26 _ rfl rfl (by kernel_rfl) (by kernel_rfl) (fun K hK => ?_)
                simp only [Mix.pick]
                go_wp2
                refine ⟨rfl, hK _ _ ?_⟩
                clear hK K
                refine Mix.take [false, false, false, false, false, false, false, false, false, false, false, false, false, false, false, false, false, false, false, false, false, false, false, false, false, false, false, true, false, false, false, false, false, false, false, true, true] 0 (by kernel_rfl) (by kernel_rfl) (by decide) (by kernel_rfl) (fun K hK => ?_)
                simp only [Mix.pick]
                repeat (go_big_quiet_step (fail))
                refine wpQuiet_nil (hK _ ?_)
                clear hK K
                refine Mix.done (by kernel_rfl) ?_
                go_wp2
                go_roundw
                case rel => exact ⟨k + 1, by omega, by go_num, hbA⟩
                case measure => simp [intOf]; omega
            · have hall : Below B w wr := hfin.trans (hbq.mono hBw)
              go_wp2
              go_ret
              exact ⟨rfl, hall⟩
end Go.Proofs.Ytfnmidaiabjpbab.Ap
