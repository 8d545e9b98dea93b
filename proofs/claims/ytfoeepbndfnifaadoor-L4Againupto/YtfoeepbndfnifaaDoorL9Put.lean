/-
  Options in memory; PutOptions.
-/
import Derived.Test.YtfoeepbndfnifaaDoorI4Bld
import Derived.Test.YtfoeepbndfnifaaDoorI8Sum
import Derived.Test.YtfoeepbndfnifaaDoorI4Spec
namespace Go.Proofs.YtfoeepbndfnifaaDoor
open Go.RowKit

/-- an option in memory -/
structure OpV where
  k : Int
  a : Option Addr
  c : Nat
  d : List Nat
def OpV.val (o : OpV) : Int × List Nat := (o.k, o.d)
structure OpOk (w : World) (o : OpV) : Prop where
  seg : Seg .u8 w o.a (toI o.d)
  h256 : ∀ x ∈ o.d, x < 256
  le : o.d.length ≤ o.c
  cap : o.c ≤ 9223372036854775807
theorem OpOk.old {w w' : World} {o : OpV} (h : OpOk w o) (hb : Below w.heap.size w w') : OpOk w' o := ⟨h.seg.old hb, h.h256, h.le, h.cap⟩
/-- a list of options in memory -/
def OptsAt (w : World) (la : Option Addr) (os : List OpV) : Prop :=
  os = [] ∨ ∃ b off, la = some ⟨b, off, none⟩ ∧ b < w.heap.size ∧ ∀ (i : Nat) (o : OpV), os[i]? = some o → OpOk w o ∧ w.cell? ⟨b, off + i * 2, none⟩ = some (.int .i64 o.k) ∧ w.cell? ⟨b, off + i * 2 + 1, none⟩ = some (.slice o.a o.d.length o.c)
theorem OptsAt.old {w w' : World} {la : Option Addr} {os : List OpV} (h : OptsAt w la os) (hb : Below w.heap.size w w') : OptsAt w' la os := by
  rcases h with h | ⟨b, off, ha, hlt, hc⟩
  · exact .inl h
  · refine .inr ⟨b, off, ha, Nat.lt_of_lt_of_le hlt hb.size, fun i o ho => ?_⟩
    obtain ⟨h1, h2, h3⟩ := hc i o ho
    exact ⟨h1.old hb, (hb.cell (p := ⟨b, off + i * 2, none⟩) hlt).trans h2, (hb.cell (p := ⟨b, off + i * 2 + 1, none⟩) hlt).trans h3⟩
theorem OptsAt.at {w : World} {la : Option Addr} {os : List OpV} (h : OptsAt w la os) (i : Nat) (o : OpV) (ho : os[i]? = some o) :
    ∃ b off, la = some ⟨b, off, none⟩ ∧ b < w.heap.size ∧ OpOk w o ∧ w.cell? ⟨b, off + i * 2, none⟩ = some (.int .i64 o.k) ∧ w.cell? ⟨b, off + i * 2 + 1, none⟩ = some (.slice o.a o.d.length o.c) := by
  rcases h with h | ⟨b, off, ha, hlt, hc⟩
  · rw [h] at ho; simp at ho
  · obtain ⟨h1, h2, h3⟩ := hc i o ho
    exact ⟨b, off, ha, hlt, h1, h2, h3⟩
def vals (os : List OpV) : List (Int × List Nat) := os.map OpV.val
theorem flatI_snoc (l : List (Int × List Nat)) (o : Int × List Nat) : I4.flatI (l ++ [o]) = I4.flatI l ++ (o.1.toNat :: (o.2.length + 2) :: o.2) := by
  unfold I4.flatI
  rw [List.map_append, I4.flatO_app]
  simp [I4.natO, I4.flatO]
theorem flatI_take_le (l : List (Int × List Nat)) (k : Nat) : (I4.flatI (l.take k)).length ≤ (I4.flatI l).length := by
  conv => rhs; rw [← List.take_append_drop k l]
  unfold I4.flatI
  rw [List.map_append, I4.flatO_app, List.length_append]
  omega
theorem vals_take (os : List OpV) (k : Nat) (o : OpV) (h : os[k]? = some o) : (vals os).take (k + 1) = (vals os).take k ++ [o.val] := by
  have hk : k < os.length := (List.getElem?_eq_some_iff.1 h).1
  rw [List.take_succ_eq_append_getElem (by simp [vals]; exact hk)]
  congr 2
  simp only [vals, List.getElem_map]
  rw [(List.getElem?_eq_some_iff.1 h).2]
theorem okO_false (o : OpV) (h : o.k < 2 ∨ 255 < o.k ∨ 38 < o.d.length) : I4.okO o.val = false := by
  rw [Bool.eq_false_iff]
  intro hh
  rw [show o.val = (o.k, o.d) from rfl] at hh
  simp [I4.okO] at hh
  omega
theorem okO_true (o : OpV) (h1 : 2 ≤ o.k) (h2 : o.k ≤ 255) (h3 : o.d.length ≤ 38) : I4.okO o.val = true := by
  rw [show o.val = (o.k, o.d) from rfl]
  simp [I4.okO]
  omega
theorem put_bad1 (os : List OpV) (k : Nat) (o : OpV) (h : os[k]? = some o) (hb : I4.okO o.val = false) : I4.putOk (vals os) = false := by
  unfold I4.putOk
  have : (vals os).all I4.okO = false := by
    rw [List.all_eq_false]
    exact ⟨o.val, List.mem_map.2 ⟨o, List.mem_of_getElem? h, rfl⟩, by simp [hb]⟩
  rw [this]; rfl
theorem put_bad2 (os : List OpV) (k : Nat) (h : 40 < (I4.flatI ((vals os).take k)).length) : I4.putOk (vals os) = false := by
  unfold I4.putOk
  have := flatI_take_le (vals os) k
  rw [decide_eq_false (by omega), Bool.and_false]
/-- the state of the first loop -/
structure PuS (w : World) (B : Nat) (os : List OpV) (v : Value) (k : Nat) (wr : World) : Prop where
  hk : k ≤ os.length
  bld : Bld wr B v 40 (I4.flatI ((vals os).take k))
  bel : Below w.heap.size w wr
  new : ∀ q, v.ownBlock = some q → w.heap.size ≤ q
  ok : ((vals os).take k).all I4.okO = true
  le : (I4.flatI ((vals os).take k)).length ≤ 40
def lenOf (w : World) (B : Nat) : Nat := match w.cell? ⟨B, 0, none⟩ with | some (.slice _ n _) => n | _ => 0
theorem Bld.lenOf {w : World} {B : Nat} {v : Value} {mx : Nat} {l : List Nat} (h : Bld w B v mx l) : lenOf w B = l.length := by
  obtain ⟨a, c, hv⟩ := owns_shape h.own
  unfold Proofs.YtfoeepbndfnifaaDoor.lenOf
  rw [h.c0, hv]
theorem parts_two (W : World) (S : Nat → Prop) (N1 N2 x y : Nat) (a : Option Addr) (c : Nat) (d : List Nat) (h1 : W.cell? ⟨N2, 0, none⟩ = some (.slice (some ⟨N1, 0, none⟩) 2 2)) (h2 : W.cell? ⟨N2, 1, none⟩ = some (.slice a d.length c)) (h3 : W.cell? ⟨N1, 0, none⟩ = some (.int .u8 x)) (h4 : W.cell? ⟨N1, 1, none⟩ = some (.int .u8 y)) (hs : Seg .u8 W a (toI d))
    (hN1 : ¬ S N1) (hN2 : ¬ S N2) (hd : ∀ z, toI d ≠ [] → a = some z → ¬ S z.block) : PartsAt W S (some ⟨N2, 0, none⟩) [⟨some ⟨N1, 0, none⟩, 2, [x, y]⟩, ⟨a, c, d⟩] := by
  refine .inr ⟨N2, 0, rfl, hN2, World.block_lt_of_cell? W _ h1, fun i p hp => ?_⟩
  match i, hp with
  | 0, hp =>
    simp at hp; subst hp
    refine ⟨h1, .inr ⟨N1, 0, rfl, fun i hi => ?_⟩, fun z _ hz => ?_⟩
    · have hi2 : i < 2 := hi
      have : i = 0 ∨ i = 1 := by omega
      rcases this with rfl | rfl
      · exact h3
      · exact h4
    · have := Option.some.inj hz; subst this; exact hN1
  | 1, hp =>
    simp at hp; subst hp
    exact ⟨h2, hs, hd⟩
  | i + 2, hp => simp at hp
theorem PuS.step {w wr W w' : World} {B : Nat} {os : List OpV} {v v' : Value} {k : Nat} (h : PuS w B os v k wr) (o : OpV) (ho : os[k]? = some o) (hok : I4.okO o.val = true) (hB : w.heap.size ≤ B) (hW : Below wr.heap.size wr W) (hb : Bld w' B v' 40 (I4.flatI ((vals os).take (k + 1)))) (hq : ∀ q, v'.ownBlock = some q → v.ownBlock = some q ∨ W.heap.size ≤ q) (hc : Ch (BS B v) W w') (hl : (I4.flatI ((vals os).take (k + 1))).length ≤ 40) : PuS w B os v' (k + 1) w' := by
  have hbW : Below w.heap.size w W := h.bel.trans (hW.mono h.bel.size)
  refine ⟨(List.getElem?_eq_some_iff.1 ho).1, hb, hbW.trans (hc.below (fun x hx => ?_) hbW.size), fun q hv => ?_, ?_, hl⟩
  · rcases hx with rfl | hx
    · exact hB
    · exact h.new x hx
  · rcases hq q hv with h1 | h1
    · exact h.new q h1
    · have := hbW.size; omega
  · rw [vals_take os k o ho, List.all_append, h.ok]
    simp [hok]
/-- the state of the second loop -/
structure PaS (w : World) (B : Nat) (F : List Nat) (v : Value) (z : Nat) (wr : World) : Prop where
  bld : Bld wr B v 40 (F ++ List.replicate z 0)
  bel : Below w.heap.size w wr
  new : ∀ q, v.ownBlock = some q → w.heap.size ≤ q
  zl : z ≤ (4 - F.length % 4) % 4
theorem PaS.step {w wr w' : World} {B : Nat} {F : List Nat} {v v' : Value} {z : Nat} (h : PaS w B F v z wr) (hB : w.heap.size ≤ B) (hb : Bld w' B v' 40 (F ++ List.replicate z 0 ++ byN 1 0)) (hq : ∀ q, v'.ownBlock = some q → v.ownBlock = some q ∨ wr.heap.size ≤ q) (hc : Ch (BS B v) wr w') (hz : z + 1 ≤ (4 - F.length % 4) % 4) : PaS w B F v' (z + 1) w' := by
  refine ⟨?_, h.bel.trans (hc.below (fun x hx => ?_) h.bel.size), fun q hv => ?_, hz⟩
  · have e : F ++ List.replicate z 0 ++ byN 1 0 = F ++ List.replicate (z + 1) 0 := by
      rw [List.append_assoc, List.replicate_succ']; rfl
    rw [← e]; exact hb
  · rcases hx with rfl | hx
    · exact hB
    · exact h.new x hx
  · rcases hq q hv with h1 | h1
    · exact h.new q h1
    · have := h.bel.size; omega
def PutRes (w : World) (os : List OpV) (v : Value) (er : Int) (w' : World) : Prop :=
  (I4.putOk (vals os) = true ∧ er = 0 ∧ ∃ g, v = .slice (some ⟨g, 0, none⟩) (I4.putO (vals os)).length (I4.putO (vals os)).length ∧ w'.ownsRow w.heap.size 5 1 v (I4.putO (vals os)).length ((toI (I4.putO (vals os))).map (Value.int .u8))) ∨ (I4.putOk (vals os) = false ∧ er = 65 ∧ v = .slice none 0 0)
set_option maxHeartbeats 3200000 in
set_option maxRecDepth 100000 in
theorem oput_any (la : Option Addr) (n cap : Nat) (os : List OpV) (w : World) (hn : os.length = n) (ho : OptsAt w la os) (hnn : n ≤ 9223372036854775806) :
    Calls Tryd.prog 76 #[.slice la n cap] w fun e w' => ∃ v er, e = .returned (.tuple #[v, .bool (decide (er = (0 : Int)))]) ∧ Below w.heap.size w w' ∧ PutRes w os v er w' := by
  have QN : Hid _ := newB_ok 40 w (by decide)
  have HN : Hid (os.length = n) := hn
  have HO : Hid (OptsAt w la os) := ho
  have h48 : n ≤ 9223372036854775806 := hnn
  clear hn ho hnn
  go_enter Tryd.func76, Tryd.ntmps76
  go_wp2_with fail
  refine Calls.mono QN.out ?_
  rintro e w1 ⟨rfl, hB1, hw1⟩
  have hbel1 : Below w.heap.size w w1 := by rw [hw1]; exact (Below.refl _ _).alloc (Nat.le_refl _) _
  obtain ⟨B, hB⟩ : ∃ B, B = w.heap.size := ⟨_, rfl⟩
  rw [← hB] at hB1 ⊢
  have HB : Hid (w.heap.size ≤ B) := by rw [hB]; exact Nat.le_refl _
  have HS0 : Hid (PuS w B os (.slice none 0 0) 0 w1) := ⟨Nat.zero_le _, by simpa [I4.flatI, I4.flatO] using hB1, hbel1, by simp [Value.ownBlock], rfl, by simp [I4.flatI, I4.flatO]⟩
  clear QN hw1 hbel1 hB1 hB
  go_wp2
  go_loopw [16] (fun ix wr => ∃ (k : Nat) (v : Value), ix = .int .i64 k ∧ k ≤ n ∧ Hid (PuS w B os v k wr)) (fun ix _ => n - (intOf ix).toNat)
  case atStart => exact ⟨0, _, rfl, Nat.zero_le _, HS0⟩
  case round =>
    obtain ⟨k, v, rfl, hk, HS⟩ := hrel
    by_cases hlt : k < n
    · obtain ⟨o, hok⟩ : ∃ o, os[k]? = some o := ⟨_, List.getElem?_eq_getElem (by rw [HN.out]; exact hlt)⟩
      obtain ⟨b, off, hla, hblt, hoo, d0, d1⟩ := (HO.out.old HS.out.bel).at k o hok
      have HOW : Hid (OpOk w o) := by
        obtain ⟨_, _, _, _, how, _, _⟩ := HO.out.at k o hok
        exact how
      subst hla
      have k0 : (0 : Int) ≤ (k : Int) := by omega
      have k1 : (k : Int) < (n : Int) := by omega
      have k2 : ((k : Int)).toNat = k := by omega
      have wk : IntKind.i64.wrap ((k : Int) + 1) = (k : Int) + 1 := by rw [IntKind.wrap_i64]; omega
      have hsz := HS.out.bel.size
      obtain ⟨K, hK⟩ : ∃ K, K = o.k := ⟨_, rfl⟩
      obtain ⟨L, hL⟩ : ∃ L, L = o.d.length := ⟨_, rfl⟩
      rw [← hK] at d0
      rw [← hL] at d1
      have hbA : ∀ X, Below w.heap.size w (wr.alloc X) := fun X => HS.out.bel.alloc HS.out.bel.size X
      have HOK : Hid (os[k]? = some o) := hok
      have HKK : Hid (K = o.k) := hK
      have HLL : Hid (L = o.d.length) := hL
      have HOO : Hid (OpOk wr o) := hoo
      have HBA : Hid _ := hbA
      clear hok hK hL hoo hbA hblt
      by_cases hk2 : K < 2
      · have HF : Hid (I4.putOk (vals os) = false) := put_bad1 os k o HOK.out (okO_false o (by rw [← HKK.out, ← HLL.out]; omega))
        go_wp2
        go_ret2
        exact ⟨_, 65, rfl, HBA.out _, .inr ⟨HF.out, rfl, rfl⟩⟩
      · by_cases hk3 : 255 < K
        · have HF : Hid (I4.putOk (vals os) = false) := put_bad1 os k o HOK.out (okO_false o (by rw [← HKK.out, ← HLL.out]; omega))
          go_wp2
          go_ret2
          exact ⟨_, 65, rfl, HBA.out _, .inr ⟨HF.out, rfl, rfl⟩⟩
        · by_cases hk4 : 38 < L
          · have HF : Hid (I4.putOk (vals os) = false) := put_bad1 os k o HOK.out (okO_false o (by rw [← HKK.out, ← HLL.out]; omega))
            have l38 : (38 : Int) < (L : Int) := by omega
            clear hk4
            go_wp2
            go_ret2
            exact ⟨_, 65, rfl, HBA.out _, .inr ⟨HF.out, rfl, rfl⟩⟩
          · obtain ⟨J, hJ⟩ : ∃ J : Nat, K = (J : Int) := ⟨K.toNat, by omega⟩
            have hJ2 : 2 ≤ J := by omega
            have hJ3 : J ≤ 255 := by omega
            have HJ : Hid (J = o.k.toNat) := by show _ = _; rw [← HKK.out]; omega
            have hokO : I4.okO o.val = true := okO_true o (by rw [← HKK.out]; omega) (by rw [← HKK.out]; omega) (by rw [← HLL.out]; omega)
            have HOK2 : Hid (I4.okO o.val = true) := hokO
            subst hJ
            have l38 : ¬ (38 : Int) < (L : Int) := by omega
            have hL38 : L ≤ 38 := by omega
            have u1 : IntKind.u8.wrap (J : Int) = (J : Int) := by rw [IntKind.wrap_u8]; omega
            have u2 : IntKind.u8.wrap (2 + (L : Int)) = 2 + (L : Int) := by rw [IntKind.wrap_u8]; omega
            have u3 : IntKind.i64.wrap (2 + (L : Int)) = 2 + (L : Int) := by rw [IntKind.wrap_i64]; omega
            have hBlt := HS.out.bld.lt
            have hnS1 : ∀ x, wr.heap.size ≤ x → ¬ BS B v x := fun x hx => bs_out HS.out.bld x hx
            have hnS2 : ∀ z, toI o.d ≠ [] → o.a = some z → ¬ BS B v z.block := by
              intro z hz ha hS
              have hzl : z.block < w.heap.size := by
                rcases HOW.out.seg with h0 | ⟨g, f, e, hc⟩
                · exact absurd h0 hz
                · rw [ha] at e
                  have := Option.some.inj e
                  subst this
                  exact World.block_lt_of_cell? w _ (hc 0 (List.length_pos_iff.2 hz))
              rcases hS with h1 | h1
              · have := HB.out; omega
              · have := HS.out.new _ h1; omega
            have HBLD : Hid _ := HS.out.bld
            have HN1 : Hid _ := hnS1
            have HN2 : Hid _ := hnS2
            clear hk2 hk3 hk4 hokO hnS1 hnS2
            by_cases hfit : (I4.flatI ((vals os).take (k + 1))).length ≤ 40
            · have HFIT : Hid ((I4.flatI ((vals os).take (k + 1))).length ≤ 40) := hfit
              clear hfit
              go_wp2_with fail
              refine Calls.mono (bytesB_ok B v 40 (I4.flatI ((vals os).take k)) _ 2 [⟨some ⟨wr.heap.size + 1, 0, none⟩, 2, [J, L + 2]⟩, ⟨o.a, o.c, o.d⟩] _ (HBLD.out.below (((Below.refl _ _).alloc (Nat.le_refl _) _).alloc (by simp) _ |>.alloc (by simp; omega) _)) (parts_two _ _ (wr.heap.size + 1) (wr.heap.size + 2) J (L + 2) o.a o.c o.d (by simp [go_sem]) (by rw [← HLL.out]; simp [go_sem]) (by simp [go_sem]) (by simp [go_sem]; omega) (HOO.out.seg.old (((Below.refl _ _).alloc (Nat.le_refl _) _).alloc (by simp) _ |>.alloc (by simp; omega) _)) (HN1.out _ (by omega)) (HN1.out _ (by omega)) HN2.out) ?_ (by decide) (by simp)) ?_
              · have e1 := flatI_snoc ((vals os).take k) o.val
                rw [← vals_take os k o HOK.out] at e1
                have e2 := congrArg List.length e1
                rw [List.length_append] at e2
                have e3 := HFIT.out
                simp only [flat, List.length_append, List.length_cons, List.length_nil, OpV.val] at e2 ⊢
                omega
              · rintro e w5 ⟨rfl, v5, hb5, hq5, hc5⟩
                have HS5 : Hid (PuS w B os v5 (k + 1) w5) := by
                  refine HS.out.step o HOK.out HOK2.out HB.out (((Below.refl _ _).alloc (Nat.le_refl _) _).alloc (by simp) _ |>.alloc (by simp; omega) _) ?_ hq5 hc5 HFIT.out
                  have e1 := flatI_snoc ((vals os).take k) o.val
                  rw [← vals_take os k o HOK.out] at e1
                  rw [e1]
                  have e2 : flat [⟨some ⟨wr.heap.size + 1, 0, none⟩, 2, [J, L + 2]⟩, ⟨o.a, o.c, o.d⟩] = o.val.1.toNat :: (o.val.2.length + 2) :: o.val.2 := by
                    simp only [flat, OpV.val, HJ.out, HLL.out]; simp
                  rw [e2] at hb5
                  exact hb5
                clear hb5 hq5 hc5
                go_wp2
                go_roundw
                case rel => exact ⟨k + 1, v5, by go_num, by omega, HS5⟩
                case measure => simp [intOf]; omega
            · have HF : Hid (I4.putOk (vals os) = false) := put_bad2 os (k + 1) (by omega)
              have HFIT : Hid (¬ (I4.flatI ((vals os).take (k + 1))).length ≤ 40) := hfit
              clear hfit
              go_wp2_with fail
              refine Calls.mono (bytesB_no B v 40 (I4.flatI ((vals os).take k)) _ 2 [⟨some ⟨wr.heap.size + 1, 0, none⟩, 2, [J, L + 2]⟩, ⟨o.a, o.c, o.d⟩] _ (HBLD.out.below (((Below.refl _ _).alloc (Nat.le_refl _) _).alloc (by simp) _ |>.alloc (by simp; omega) _)) (parts_two _ _ (wr.heap.size + 1) (wr.heap.size + 2) J (L + 2) o.a o.c o.d (by simp [go_sem]) (by rw [← HLL.out]; simp [go_sem]) (by simp [go_sem]) (by simp [go_sem]; omega) (HOO.out.seg.old (((Below.refl _ _).alloc (Nat.le_refl _) _).alloc (by simp) _ |>.alloc (by simp; omega) _)) (HN1.out _ (by omega)) (HN1.out _ (by omega)) HN2.out) ?_ (by decide) HS.out.le (by simp) ?_) ?_
              · have e1 := flatI_snoc ((vals os).take k) o.val
                rw [← vals_take os k o HOK.out] at e1
                have e2 := congrArg List.length e1
                rw [List.length_append] at e2
                have e3 := HFIT.out
                simp only [flat, List.length_append, List.length_cons, List.length_nil, OpV.val] at e2 ⊢
                omega
              · intro p hp
                simp at hp
                rcases hp with rfl | rfl
                · simp
                · have := HLL.out; simp only; omega
              · rintro e w5 ⟨rfl, hb5⟩
                have HF5 : Hid (Below w.heap.size w w5) := (HS.out.bel.trans ((((Below.refl _ _).alloc (Nat.le_refl _) _).alloc (by simp) _ |>.alloc (by simp; omega) _ : Below wr.heap.size wr _).mono HS.out.bel.size)).trans (hb5.mono (by simp; omega))
                clear hb5
                go_wp2
                go_ret2
                exact ⟨_, 65, rfl, HF5.out, .inr ⟨HF.out, rfl, rfl⟩⟩
    · have hkn : k = n := by omega
      subst hkn
      have hF : I4.flatI ((vals os).take k) = I4.flatI (vals os) := by rw [List.take_of_length_le (by simp [vals, HN.out])]
      have hall : (vals os).all I4.okO = true := by have := HS.out.ok; rwa [List.take_of_length_le (by simp [vals, HN.out])] at this
      have hle := HS.out.le
      rw [hF] at hle
      have hput : I4.putOk (vals os) = true := by unfold I4.putOk; rw [hall, decide_eq_true hle]; rfl
      have HPUT : Hid (I4.putOk (vals os) = true) := hput
      have hbld := HS.out.bld
      rw [hF] at hbld
      have HPO : Hid (I4.putO (vals os) = I4.flatI (vals os) ++ List.replicate ((4 - (I4.flatI (vals os)).length % 4) % 4) 0) := by show _ = _; rw [I4.putO, if_pos hput]; rfl
      obtain ⟨F, hFF⟩ : ∃ F, F = I4.flatI (vals os) := ⟨_, rfl⟩
      rw [← hFF] at hle hbld HPO
      have HP0 : Hid (PaS w B F v 0 wr) := ⟨by simpa using hbld, HS.out.bel, HS.out.new, Nat.zero_le _⟩
      have HLE : Hid (F.length ≤ 40) := hle
      clear hlt hF hall hput hFF hbld HS hle
      go_wp2
      obtain ⟨wz, hwz⟩ : ∃ wz, wz = wr := ⟨_, rfl⟩
      rw [← hwz] at HP0 ⊢
      clear hwz
      go_loopw [51] (fun _ wq => ∃ (v : Value) (z : Nat), Hid (PaS w B F v z wq)) (fun _ wq => 40 - lenOf wq B)
      case atStart => exact ⟨v, 0, HP0⟩
      case round =>
        obtain ⟨v2, z, HP⟩ := hrel
        have HLEN : Hid _ := HP.out.bld.lenOf
        have QL : Hid _ := lenB_any B v2 40 (F ++ List.replicate z 0) _ HP.out.bld
        have hzl := HP.out.zl
        have hfl := HLE.out
        obtain ⟨T, hT⟩ : ∃ T, T = (F ++ List.replicate z 0).length := ⟨_, rfl⟩
        have hT2 : T = F.length + z := by rw [hT]; simp
        rw [← hT] at QL HLEN
        have HT : Hid (T = (F ++ List.replicate z 0).length) := hT
        obtain ⟨fl, hfl2⟩ : ∃ fl, fl = F.length := ⟨_, rfl⟩
        rw [← hfl2] at hzl hfl hT2
        have HFL : Hid (fl = F.length) := hfl2
        clear hT hfl2
        go_wp2_with fail
        refine Calls.mono QL.out ?_
        rintro e w6 ⟨rfl, rfl⟩
        by_cases h4 : T % 4 = 0
        · have b4 : ((T : Int) % 4 != 0) = false := by have : (T : Int) % 4 = 0 := by omega
                                                       rw [this]; rfl
          have hz : z = (4 - fl % 4) % 4 := by omega
          have HPO2 : Hid (I4.putO (vals os) = F ++ List.replicate z 0) := by show _ = _; rw [HPO.out, hz, HFL.out]
          have QD : Hid _ := doneB_any B v2 40 (F ++ List.replicate z 0) _ HP.out.bld (by have := HT.out; omega)
          rw [← HT.out] at QD
          have hbel := HP.out.bel
          clear h4 hz QL HLEN hT2 hzl hfl
          go_wp2_with fail
          refine Calls.mono QD.out ?_
          rintro e w7 ⟨g, rfl, ho7, hb7⟩
          have HF7 : Hid (Below w.heap.size w w7) := hbel.trans (hb7.mono hbel.size)
          have HO7 : Hid _ := owns_le ho7 hbel.size
          clear ho7 hb7 QD hbel
          go_wp2
          go_ret2
          exact ⟨_, 0, rfl, HF7.out, .inl ⟨HPUT.out, rfl, g, by rw [HPO2.out, ← HT.out]; rfl, by rw [HPO2.out, ← HT.out]; exact HO7.out⟩⟩
        · have b4 : ((T : Int) % 4 != 0) = true := by rw [bne_iff_ne]; omega
          have QP : Hid _ := putB_ok B v2 40 (F ++ List.replicate z 0) 1 0 _ HP.out.bld (by decide) (by decide) (by decide) (by have := HT.out; omega) (by decide)
          have HZ : Hid (z + 1 ≤ (4 - F.length % 4) % 4) := by show _ ≤ _; rw [← HFL.out]; omega
          have HT40 : Hid (T < 40) := by show _ < _; omega
          clear h4 QL hT2 hzl hfl
          go_wp2_with fail
          refine Calls.mono QP.out ?_
          rintro e w7 ⟨rfl, v7, hb7, hq7, hc7⟩
          have HP7 : Hid (PaS w B F v7 (z + 1) w7) := HP.out.step HB.out hb7 hq7 hc7 HZ.out
          clear hb7 hq7 hc7 QP
          go_wp2
          go_roundw
          case rel => exact ⟨v7, z + 1, HP7⟩
          case measure =>
            have h1 := HP7.out.bld.lenOf
            have h2 := HLEN.out
            have h3 := HT.out
            have h4 := HT40.out
            rw [List.length_append, List.length_replicate] at h1 h3
            omega
end Go.Proofs.YtfoeepbndfnifaaDoor
