/-
  The builder's calls: Bytes, Put.
-/
import Derived.Test.YtcgfdhmegagjdaaBuilder2
namespace Go.Proofs.Ytcgfdhmegagjdaa
open Go.RowKit

/-- a part that is handed in -/
structure PV where
  a : Option Addr
  cap : Nat
  bs : List Nat
def flat : List PV → List Nat
  | [] => []
  | p :: ps => p.bs ++ flat ps
theorem flat_snoc (ps : List PV) (p : PV) : flat (ps ++ [p]) = flat ps ++ p.bs := by
  induction ps with
  | nil => simp [flat]
  | cons q ps ih => simp [flat, ih]
theorem flat_take (ps : List PV) (k : Nat) (p : PV) (h : ps[k]? = some p) : flat (ps.take (k + 1)) = flat (ps.take k) ++ p.bs := by
  have hk : k < ps.length := (List.getElem?_eq_some_iff.1 h).1
  have e : ps[k] = p := (List.getElem?_eq_some_iff.1 h).2
  rw [List.take_succ_eq_append_getElem hk, e, flat_snoc]
theorem flat_le (ps : List PV) (k : Nat) : (flat (ps.take k)).length ≤ (flat ps).length := by
  induction ps generalizing k with
  | nil => simp [flat]
  | cons q ps ih =>
    cases k with
    | zero => simp [flat]
    | succ k => simp [flat]; exact ih k
/-- the list of parts lies in memory, outside the blocks S -/
def PartsAt (w : World) (S : Nat → Prop) (pa : Option Addr) (ps : List PV) : Prop :=
  ps = [] ∨ ∃ b off, pa = some ⟨b, off, none⟩ ∧ ¬ S b ∧ b < w.heap.size ∧ ∀ i p, ps[i]? = some p → w.cell? ⟨b, off + i, none⟩ = some (.slice p.a p.bs.length p.cap) ∧ Seg .u8 w p.a (toI p.bs) ∧ ∀ x, toI p.bs ≠ [] → p.a = some x → ¬ S x.block
theorem PartsAt.ch {w w' : World} {S : Nat → Prop} {pa : Option Addr} {ps : List PV} (h : PartsAt w S pa ps) (k : Ch S w w') : PartsAt w' S pa ps := by
  rcases h with h | ⟨b, off, ha, hS, hlt, hc⟩
  · exact .inl h
  · refine .inr ⟨b, off, ha, hS, Nat.lt_of_lt_of_le hlt k.size, fun i p hp => ?_⟩
    obtain ⟨h1, h2, h3⟩ := hc i p hp
    exact ⟨k.cell h1 hS, k.seg h2 h3, h3⟩

/-- the builder behind an append to its row -/
theorem Bld.app {w w2 : World} {B : Nat} {v v' : Value} {mx : Nat} {l m : List Nat} (h : Bld w B v mx l) (ho : w2.ownsRow 0 5 1 v' (l ++ m).length ((toI (l ++ m)).map (Value.int .u8))) (hq : ∀ q, v'.ownBlock = some q → v.ownBlock = some q ∨ w.heap.size ≤ q) (hg : w.grownBy w2 v.ownBlock) :
    Bld (w2.setCell ⟨B, 0, none⟩ v') B v' mx (l ++ m) ∧ Ch (BS B v) w (w2.setCell ⟨B, 0, none⟩ v') := by
  have hlt := h.lt
  have hne : v'.ownBlock ≠ some B := fun e => by
    rcases hq B e with e | e
    · exact h.ne e
    · omega
  have hb : some B ≠ v.ownBlock := fun e => h.ne e.symm
  have h0 : w2.cell? ⟨B, 0, none⟩ = some v := hg.cell h.c0 hb
  have hch : Ch (BS B v) w w2 := (Ch.ofGrown hg).mono (fun x _ hx => .inr hx)
  refine ⟨⟨World.cell?_setCell_same _ _ _ h0, ?_, ?_, ?_, ?_, hne⟩, hch.set _ _ (.inl rfl)⟩
  · rw [World.cell?_setCell_other _ _ _ _ (by simp)]; exact hg.cell h.c1 hb
  · intro j; rw [World.frozen?_setCell, World.frozen?_of_block (hg.block B hlt hb)]; exact h.fz j
  · have := hg.size; simp; omega
  · exact ((Ch.refl (fun x => x = B) w2).set ⟨B, 0, none⟩ v' rfl).owns ho (fun g hg' e => hne (by rw [hg', e]))

set_option maxRecDepth 100000 in
set_option maxHeartbeats 800000 in
theorem bytesB_ok (B : Nat) (v : Value) (mx : Nat) (l : List Nat) (pa : Option Addr) (cap : Nat) (ps : List PV) (w : World) (h : Bld w B v mx l) (hp : PartsAt w (BS B v) pa ps) (hfit : l.length + (flat ps).length ≤ mx) (hmx : mx ≤ 65535) (hpl : ps.length ≤ 9223372036854775807) :
    Calls Try.prog 11 #[.pointer (some ⟨B, 0, none⟩), .slice pa ps.length cap] w fun e w' => e = .returned (.int .i64 0) ∧ ∃ v', Bld w' B v' mx (l ++ flat ps) ∧ (∀ q, v'.ownBlock = some q → v.ownBlock = some q ∨ w.heap.size ≤ q) ∧ Ch (BS B v) w w' := by
  obtain ⟨i0, hi, hz0, hz1, hz2⟩ := info_parts Try.infoByte
  have h0 := h.c0
  have h1 := h.c1
  obtain ⟨a, c, rfl⟩ := owns_shape h.own
  go_enter Try.func11, Try.ntmps11
  go_wp2
  try go_region
  go_wp2
  go_loop [5, 22] (fun r ix => ∃ k : Nat, k ≤ ps.length ∧ ix = .int .i64 k ∧ r = .int .i64 ((mx : Int) - l.length - (flat (ps.take k)).length)) (fun _ ix => ps.length - (intOf ix).toNat)
  case atStart => exact ⟨0, Nat.zero_le _, rfl, by simp [flat]⟩
  case round =>
    obtain ⟨k, hk, rfl, rfl⟩ := hrel
    by_cases hlt : k < ps.length
    · obtain ⟨p, hpk⟩ : ∃ p, ps[k]? = some p := ⟨ps[k], by simp [hlt]⟩
      rcases hp with hnil | ⟨b, off, rfl, hSb, hbl, hc⟩
      · rw [hnil] at hlt; simp at hlt
      obtain ⟨hcc, _, _⟩ := hc k p hpk
      have hft := flat_take ps k p hpk
      have hfl := flat_le ps (k + 1)
      rw [hft, List.length_append] at hfl
      have HFT : Hid _ := hft
      obtain ⟨f, hf⟩ : ∃ f, f = (flat (ps.take k)).length := ⟨_, rfl⟩
      rw [← hf] at hfl ⊢
      obtain ⟨q, hq⟩ : ∃ q, q = p.bs.length := ⟨_, rfl⟩
      rw [← hq] at hfl hcc
      have HF : Hid (f = (flat (ps.take k)).length) := hf
      have HQ : Hid (q = p.bs.length) := hq
      obtain ⟨F, hF⟩ : ∃ F, F = (flat ps).length := ⟨_, rfl⟩
      rw [← hF] at hfit hfl
      clear hft hf hq hpk hc hF
      go_wp2
      go_round
      case rel => exact ⟨k + 1, by omega, by go_num, by rw [HFT.out, List.length_append, ← HF.out, ← HQ.out]; go_num⟩
      case measure => simp [intOf]; omega
    · obtain ⟨r, hr⟩ : ∃ r, r = (mx : Int) - l.length - (flat (ps.take k)).length := ⟨_, rfl⟩
      rw [← hr]
      clear hr
      go_wp2
      obtain ⟨v, hv⟩ : ∃ v, v = Value.slice a l.length c := ⟨_, rfl⟩
      rw [← hv] at h hp ⊢
      have HV : Hid (v = Value.slice a l.length c) := hv
      clear hv h0 h1
      go_loopw [37] (fun ix wr => ∃ (j : Nat) (v' : Value), j ≤ ps.length ∧ ix = .int .i64 j ∧ Bld wr B v' mx (l ++ flat (ps.take j)) ∧ (∀ q, v'.ownBlock = some q → v.ownBlock = some q ∨ w.heap.size ≤ q) ∧ Ch (BS B v) w wr) (fun ix _ => ps.length - (intOf ix).toNat)
      case atStart => exact ⟨0, v, Nat.zero_le _, rfl, by simpa [flat] using h.below (Below.refl _ _).drew, fun q hq => .inl hq, (Ch.refl _ _).drew⟩
      case round =>
        obtain ⟨j, v', hj, rfl, hb, hq, hch⟩ := hrel
        by_cases hjl : j < ps.length
        · obtain ⟨p, hpk⟩ : ∃ p, ps[j]? = some p := ⟨ps[j], by simp [hjl]⟩
          have hpw := hp.ch hch
          rcases hpw with hnil | ⟨b, off, rfl, hSb, hbl, hc⟩
          · rw [hnil] at hjl; simp at hjl
          obtain ⟨hcc, hsg, _⟩ := hc j p hpk
          have hft := flat_take ps j p hpk
          have hfl := flat_le ps (j + 1)
          rw [hft, List.length_append] at hfl
          obtain ⟨m, hm⟩ : ∃ m, m = l ++ flat (ps.take j) := ⟨_, rfl⟩
          have hml : m.length + p.bs.length ≤ 65535 := by rw [hm, List.length_append]; omega
          rw [← hm] at hb
          have HM : Hid (l ++ flat (ps.take (j + 1)) = m ++ p.bs) := by show _ = _; rw [hft, hm, List.append_assoc]
          have d0 := hb.c0
          have hown := hb.own
          obtain ⟨a', c', hsh⟩ := owns_shape hown
          rw [hsh] at d0
          have HSH : Hid (v' = .slice a' m.length c') := hsh
          obtain ⟨ml, hmle⟩ : ∃ ml, ml = m.length := ⟨_, rfl⟩
          rw [← hmle] at d0 hml
          have HML : Hid (ml = m.length) := hmle
          obtain ⟨pl, hple⟩ : ∃ pl, pl = p.bs.length := ⟨_, rfl⟩
          rw [← hple] at hcc hml
          have HPL : Hid (pl = p.bs.length) := hple
          rw [hsh, ← hmle] at hown
          have hfz := hb.fz 0
          have hblt := hb.lt
          have hneB := hb.ne
          clear hft hfl hm hc hpk hsh hmle hple
          go_wp2_with (at_builtin; go_loud (refine append_split_seg rfl (.tmp 45) (.tmp 46) 22 rfl 0 5 i0 (.int .u8 0) 1 Try.underlying22 hi hz0 hz1 hz2 rfl (.slice a' ml c') ml ((toI m).map (Value.int .u8)) rfl hown .u8 p.a pl p.cap (toI p.bs) rfl (by rw [toI_len, HPL.out]) hsg (by unfold maxLen; omega) (by omega) (Nat.zero_le _) ?_))
          intro v2 w2 ho2 hq2 hg2
          have hvv : v' = .slice a' ml c' := by rw [HML.out]; exact HSH.out
          rw [← hvv] at hq2 hg2
          rw [← List.map_append, HML.out, HPL.out, ← List.length_append, show toI m ++ toI p.bs = toI (m ++ p.bs) by simp [toI]] at ho2
          obtain ⟨a2, c2, rfl⟩ := owns_shape ho2
          have happ := hb.app ho2 hq2 hg2
          obtain ⟨n2, hn2⟩ : ∃ n2, n2 = (m ++ p.bs).length := ⟨_, rfl⟩
          rw [← hn2] at happ hq2 ⊢
          clear hn2 ho2
          have e0 : w2.cell? ⟨B, 0, none⟩ = some (.slice a' ml c') := hg2.cell d0 (fun e => hneB e.symm)
          have ef : w2.frozen? ⟨B, 0, none⟩ = false := by rw [World.frozen?_of_block (hg2.block B hblt (fun e => hneB e.symm))]; exact hfz
          have hch2 : Ch (BS B v) w (w2.setCell ⟨B, 0, none⟩ (Value.slice a2 n2 c2)) := hch.trans happ.2 (fun x hx hs => by
            rcases hs with hs | hs
            · exact .inl hs
            · rcases hq x hs with h | h
              · exact .inr h
              · omega)
          have hq3 : ∀ q, (Value.slice a2 n2 c2).ownBlock = some q → v.ownBlock = some q ∨ w.heap.size ≤ q := fun q h => by
            rcases hq2 q h with h | h
            · exact hq q h
            · have := hch.size; exact .inr (by omega)
          rw [← HM.out] at happ
          have HA : Hid (Bld (w2.setCell ⟨B, 0, none⟩ (Value.slice a2 n2 c2)) B (Value.slice a2 n2 c2) mx (l ++ flat (ps.take (j + 1)))) := happ.1
          have HQ3 : Hid (∀ q, (Value.slice a2 n2 c2).ownBlock = some q → v.ownBlock = some q ∨ w.heap.size ≤ q) := hq3
          clear happ hq2 hg2 hown hb hvv hq3 hneB hcc d0 hfz
          go_wp2
          go_roundw
          case rel => exact ⟨j + 1, _, by omega, by go_num, HA.out, HQ3.out, hch2⟩
          case measure => simp [intOf]; omega
        · have hjj : j = ps.length := by omega
          have HB : Hid (Bld wr B v' mx (l ++ flat ps)) := by
            show Bld wr B v' mx (l ++ flat ps)
            rw [hjj, List.take_length] at hb
            exact hb
          clear hb hjj
          go_wp2
          go_ret
          rw [HV.out] at hq hch
          exact ⟨rfl, v', HB.out, hq, hch⟩

set_option maxRecDepth 100000 in
set_option maxHeartbeats 800000 in
theorem bytesB_no (B : Nat) (v : Value) (mx : Nat) (l : List Nat) (pa : Option Addr) (cap : Nat) (ps : List PV) (w : World) (h : Bld w B v mx l) (hp : PartsAt w (BS B v) pa ps) (hfit : mx < l.length + (flat ps).length) (hmx : mx ≤ 65535) (hl : l.length ≤ mx) (hpl : ps.length ≤ 9223372036854775807) (hbs : ∀ p ∈ ps, p.bs.length ≤ 4611686018427387904) :
    Calls Try.prog 11 #[.pointer (some ⟨B, 0, none⟩), .slice pa ps.length cap] w fun e w' => e = .returned (.int .i64 13) ∧ Below w.heap.size w w' := by
  have h0 := h.c0
  have h1 := h.c1
  obtain ⟨a, c, rfl⟩ := owns_shape h.own
  go_enter Try.func11, Try.ntmps11
  go_wp2
  go_region
  go_wp2
  go_loop [5, 22] (fun r ix => ∃ k : Nat, k ≤ ps.length ∧ ix = .int .i64 k ∧ r = .int .i64 ((mx : Int) - l.length - (flat (ps.take k)).length) ∧ l.length + (flat (ps.take k)).length ≤ mx) (fun _ ix => ps.length - (intOf ix).toNat)
  case atStart => exact ⟨0, Nat.zero_le _, rfl, by simp [flat], by simpa [flat] using hl⟩
  case round =>
    obtain ⟨k, hk, rfl, rfl, hle⟩ := hrel
    by_cases hlt : k < ps.length
    · obtain ⟨p, hpk⟩ : ∃ p, ps[k]? = some p := ⟨ps[k], by simp [hlt]⟩
      rcases hp with hnil | ⟨b, off, rfl, hSb, hbl, hc⟩
      · rw [hnil] at hlt; simp at hlt
      obtain ⟨hcc, _, _⟩ := hc k p hpk
      have hft := flat_take ps k p hpk
      have HFT : Hid _ := hft
      have hpb := hbs p (List.mem_of_getElem? hpk)
      obtain ⟨f, hf⟩ : ∃ f, f = (flat (ps.take k)).length := ⟨_, rfl⟩
      rw [← hf] at hle ⊢
      obtain ⟨q, hq⟩ : ∃ q, q = p.bs.length := ⟨_, rfl⟩
      rw [← hq] at hcc hpb
      have HF : Hid (f = (flat (ps.take k)).length) := hf
      have HQ : Hid (q = p.bs.length) := hq
      clear hft hf hq hpk hc hbs
      by_cases hroom : (mx : Int) - l.length - f < q
      · go_wp2
        go_ret
        exact ⟨rfl, (Below.refl _ _).drew⟩
      · go_wp2
        go_round
        case rel => exact ⟨k + 1, by omega, by go_num, by rw [HFT.out, List.length_append, ← HF.out, ← HQ.out]; go_num, by rw [HFT.out, List.length_append, ← HF.out, ← HQ.out]; omega⟩
        case measure => simp [intOf]; omega
    · have hkk : k = ps.length := by omega
      rw [hkk, List.take_length] at hle
      omega
end Go.Proofs.Ytcgfdhmegagjdaa
