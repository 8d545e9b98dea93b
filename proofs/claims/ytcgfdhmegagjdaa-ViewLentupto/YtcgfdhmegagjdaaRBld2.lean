/-
  The document's own builder: Join.
-/
import Derived.Test.YtcgfdhmegagjdaaRBld
import Derived.Test.YtcgfdhmegagjdaaMix
import Derived.Deep.DeepCutAuto
namespace Go.Proofs.Ytcgfdhmegagjdaa
open Go.RowKit

/-- the block B holds the document's builder of at most mx bytes; its row (v) holds l -/
structure RBl (w : World) (B : Nat) (v : Value) (mx : Nat) (l : List Nat) : Prop where
  c0 : w.cell? ⟨B, 0, none⟩ = some (.int .i64 mx)
  c1 : w.cell? ⟨B, 1, none⟩ = some v
  fz : ∀ j, w.frozen? ⟨B, j, none⟩ = false
  lt : B < w.heap.size
  own : w.ownsRow 0 5 1 v l.length ((toI l).map (Value.int .u8))
  ne : v.ownBlock ≠ some B
theorem RBl.ch {S : Nat → Prop} {w w' : World} {B : Nat} {v : Value} {mx : Nat} {l : List Nat} (h : RBl w B v mx l) (k : Ch S w w') (hS : ∀ x, BS B v x → ¬ S x) : RBl w' B v mx l :=
  ⟨k.cell h.c0 (hS B (.inl rfl)), k.cell h.c1 (hS B (.inl rfl)), fun j => (k.frozen (p := ⟨B, j, none⟩) h.lt (hS B (.inl rfl))).trans (h.fz j), Nat.lt_of_lt_of_le h.lt k.size, k.owns h.own (fun g hg => hS g (.inr hg)), h.ne⟩
theorem RBl.below {w w' : World} {B : Nat} {v : Value} {mx : Nat} {l : List Nat} (h : RBl w B v mx l) (k : Below w.heap.size w w') : RBl w' B v mx l :=
  h.ch (Ch.ofBelow (S := fun _ => False) k) (fun _ _ => id)
theorem RBl.app {w w2 : World} {B : Nat} {v v' : Value} {mx : Nat} {l m : List Nat} (h : RBl w B v mx l) (ho : w2.ownsRow 0 5 1 v' (l ++ m).length ((toI (l ++ m)).map (Value.int .u8))) (hq : ∀ q, v'.ownBlock = some q → v.ownBlock = some q ∨ w.heap.size ≤ q) (hg : w.grownBy w2 v.ownBlock) :
    RBl (w2.setCell ⟨B, 1, none⟩ v') B v' mx (l ++ m) ∧ Ch (BS B v) w (w2.setCell ⟨B, 1, none⟩ v') := by
  have hlt := h.lt
  have hne : v'.ownBlock ≠ some B := fun e => by
    rcases hq B e with e | e
    · exact h.ne e
    · omega
  have hb : some B ≠ v.ownBlock := fun e => h.ne e.symm
  have h0 : w2.cell? ⟨B, 1, none⟩ = some v := hg.cell h.c1 hb
  have hch : Ch (BS B v) w w2 := (Ch.ofGrown hg).mono (fun x _ hx => .inr hx)
  refine ⟨⟨?_, World.cell?_setCell_same _ _ _ h0, ?_, ?_, ?_, hne⟩, hch.set _ _ (.inl rfl)⟩
  · rw [World.cell?_setCell_other _ _ _ _ (by simp)]; exact hg.cell h.c0 hb
  · intro j; rw [World.frozen?_setCell, World.frozen?_of_block (hg.block B hlt hb)]; exact h.fz j
  · have := hg.size; simp; omega
  · exact ((Ch.refl (fun x => x = B) w2).set ⟨B, 1, none⟩ v' rfl).owns ho (fun g hg' e => hne (by rw [hg', e]))

set_option maxRecDepth 100000 in
set_option maxHeartbeats 800000 in
theorem joinR_ok (B : Nat) (v : Value) (mx : Nat) (l : List Nat) (pa : Option Addr) (cap : Nat) (ps : List PV) (w : World) (h : RBl w B v mx l) (hp : PartsAt w (BS B v) pa ps) (hfit : l.length + (flat ps).length ≤ mx) (hmx : mx ≤ 65535) (hpl : ps.length ≤ 9223372036854775807) :
    Calls Try.prog 42 #[.pointer (some ⟨B, 0, none⟩), .slice pa ps.length cap] w fun e w' => e = .returned (.int .i64 0) ∧ ∃ v', RBl w' B v' mx (l ++ flat ps) ∧ (∀ q, v'.ownBlock = some q → v.ownBlock = some q ∨ w.heap.size ≤ q) ∧ Ch (BS B v) w w' := by
  obtain ⟨i0, hi, hz0, hz1, hz2⟩ := info_parts Try.infoByte
  have h0 := h.c0
  have h1 := h.c1
  obtain ⟨a, c, rfl⟩ := owns_shape h.own
  go_enter Try.func42, Try.ntmps42
  go_wp2
  go_loop [5, 6] (fun r ix => ∃ k : Nat, k ≤ ps.length ∧ ix = .int .i64 k ∧ r = .int .i64 ((l.length + (flat (ps.take k)).length : Nat) : Int)) (fun _ ix => ps.length - (intOf ix).toNat)
  case atStart => exact ⟨0, Nat.zero_le _, rfl, by simp [flat]⟩
  case round =>
    obtain ⟨k, hk, rfl, rfl⟩ := hrel
    by_cases hlt : k < ps.length
    · obtain ⟨p, hpk⟩ : ∃ p, ps[k]? = some p := ⟨ps[k], by simp [hlt]⟩
      rcases hp with hnil | ⟨b, off, rfl, hSb, hbl, hc⟩
      · rw [hnil] at hlt; simp at hlt
      obtain ⟨hcc, _, _⟩ := hc k p hpk
      have hft := flat_take ps k p hpk
      have hfl := flat_le ps (k + 1)
      rw [hft, List.length_append] at hfl
      have HFT : Hid _ := hft
      obtain ⟨f, hf⟩ : ∃ f, f = l.length + (flat (ps.take k)).length := ⟨_, rfl⟩
      rw [← hf]
      obtain ⟨q, hq⟩ : ∃ q, q = p.bs.length := ⟨_, rfl⟩
      rw [← hq] at hfl hcc
      have HF : Hid (f = l.length + (flat (ps.take k)).length) := hf
      have HQ : Hid (q = p.bs.length) := hq
      have hfq : f + q ≤ mx := by omega
      clear hft hf hq hpk hc hfl hfit
      go_wp2
      go_round
      case rel => exact ⟨k + 1, by omega, by go_num, by rw [HFT.out, List.length_append, ← HQ.out]; have := HF.out; go_num⟩
      case measure => simp [intOf]; omega
    · obtain ⟨r, hr⟩ : ∃ r, r = l.length + (flat (ps.take k)).length := ⟨_, rfl⟩
      have hrm : r ≤ mx := by have := flat_le ps k; omega
      rw [← hr]
      clear hr
      go_wp2
      obtain ⟨v, hv⟩ : ∃ v, v = Value.slice a l.length c := ⟨_, rfl⟩
      rw [← hv] at h hp ⊢
      have HV : Hid (v = Value.slice a l.length c) := hv
      clear hv h0 h1
      go_loopw [7] (fun ix wr => ∃ (j : Nat) (v' : Value), j ≤ ps.length ∧ ix = .int .i64 j ∧ RBl wr B v' mx (l ++ flat (ps.take j)) ∧ (∀ q, v'.ownBlock = some q → v.ownBlock = some q ∨ w.heap.size ≤ q) ∧ Ch (BS B v) w wr) (fun ix _ => ps.length - (intOf ix).toNat)
      case atStart => exact ⟨0, v, Nat.zero_le _, rfl, by simpa [flat] using h, fun q hq => .inl hq, Ch.refl _ _⟩
      case round =>
        obtain ⟨j, v', hj, rfl, hb, hq, hch⟩ := hrel
        by_cases hjl : j < ps.length
        · obtain ⟨p, hpk⟩ : ∃ p, ps[j]? = some p := ⟨ps[j], by simp [hjl]⟩
          have hpw := hp.ch hch
          rcases hpw with hnil | ⟨b, off, rfl, hSb, hbl, hc⟩
          · rw [hnil] at hjl; simp at hjl
          obtain ⟨hcc, hsg, _⟩ := hc j p hpk
          have hft := flat_take ps j p hpk
          have hfl := flat_le ps (j + 1)
          rw [hft, List.length_append] at hfl
          obtain ⟨m, hm⟩ : ∃ m, m = l ++ flat (ps.take j) := ⟨_, rfl⟩
          have hml : m.length + p.bs.length ≤ 65535 := by rw [hm, List.length_append]; omega
          rw [← hm] at hb
          have HM : Hid (l ++ flat (ps.take (j + 1)) = m ++ p.bs) := by show _ = _; rw [hft, hm, List.append_assoc]
          have d0 := hb.c1
          have hown := hb.own
          obtain ⟨a', c', hsh⟩ := owns_shape hown
          rw [hsh] at d0
          have HSH : Hid (v' = .slice a' m.length c') := hsh
          obtain ⟨ml, hmle⟩ : ∃ ml, ml = m.length := ⟨_, rfl⟩
          rw [← hmle] at d0 hml
          have HML : Hid (ml = m.length) := hmle
          obtain ⟨pl, hple⟩ : ∃ pl, pl = p.bs.length := ⟨_, rfl⟩
          rw [← hple] at hcc hml
          have HPL : Hid (pl = p.bs.length) := hple
          rw [hsh, ← hmle] at hown
          have hfz := hb.fz 1
          have hblt := hb.lt
          have hneB := hb.ne
          clear hft hfl hm hc hpk hsh hmle hple
          have hsg' : Seg .u8 wr.drew p.a (toI p.bs) := hsg
          have j0 : (0 : Int) ≤ (j : Int) := by omega
          have j1 : (j : Int) < (ps.length : Int) := by omega
          have j2 : ((j : Int)).toNat = j := by omega
          go_upto_region 13 with fail
          refine Mix.start (by kernel_rfl) ?_
          refine Mix.take [true, true, false, false, false, true, true, true] 8 (by kernel_rfl) (by kernel_rfl) (by decide) (by kernel_rfl) (fun K hK => ?_)
          simp only [Mix.pick]
          repeat (go_big_quiet_step (fail))
          refine wpQuiet_nil (hK _ ?_)
          clear hK K
          refine Mix.pair [false, false, true] [false, false, false, false, false, false, false, false, true] 7 2 8 _ _ rfl rfl rfl rfl (by kernel_rfl) (by kernel_rfl) (fun K hK => ?_) (fun K hK => ?_)
          · simp only [Mix.pick]
            go_wp2
            refine ⟨rfl, hK _ _ ?_⟩
            clear hK K
            refine Mix.take [false, false, false, true] 6 (by kernel_rfl) (by kernel_rfl) (by decide) (by kernel_rfl) (fun K hK => ?_)
            simp only [Mix.pick]
            repeat (go_big_quiet_step (fail))
            refine wpQuiet_nil (hK _ ?_)
            clear hK K
            refine Mix.pair [false, false, false, false, true] [false, false, false, false, false, false, false, false, true] 5 4 8 _ _ rfl rfl rfl rfl (by kernel_rfl) (by kernel_rfl) (fun K hK => ?_) (fun K hK => ?_)
            · simp only [Mix.pick]
              go_wp2
              refine ⟨rfl, hK _ _ ?_⟩
              clear hK K
              refine Mix.one [false, false, false, false, false, false, false, false, true] 4 8 _ rfl rfl (by kernel_rfl) (by kernel_rfl) (fun K hK => ?_)
              simp only [Mix.pick]
              go_wp2
              refine ⟨rfl, hK _ _ ?_⟩
              clear hK K
              refine Mix.one [false, false, false, false, false, false, false, false, false, true] 3 9 _ rfl rfl (by kernel_rfl) (by kernel_rfl) (fun K hK => ?_)
              simp only [Mix.pick]
              go_wp2_with (at_builtin; refine append_split_seg rfl (.tmp 48) (.tmp 52) 22 rfl 0 5 i0 (.int .u8 0) 1 Try.underlying22 hi hz0 hz1 hz2 rfl (.slice a' ml c') ml ((toI m).map (Value.int .u8)) rfl (owns_drew hown) .u8 p.a pl p.cap (toI p.bs) rfl (by rw [toI_len, HPL.out]) hsg' (by unfold maxLen; omega) (by omega) (Nat.zero_le _) ?_)
              intro v2 w2 ho2 hq2 hg2'
              have hg2 : wr.grownBy w2 (Value.slice a' ml c').ownBlock := ⟨hg2'.os, hg2'.tape, hg2'.output, hg2'.size, hg2'.block⟩
              have hvv : v' = .slice a' ml c' := by rw [HML.out]; exact HSH.out
              rw [← hvv] at hq2 hg2
              rw [← List.map_append, HML.out, HPL.out, ← List.length_append, show toI m ++ toI p.bs = toI (m ++ p.bs) by simp [toI]] at ho2
              obtain ⟨a2, c2, rfl⟩ := owns_shape ho2
              have happ := hb.app ho2 hq2 hg2
              obtain ⟨n2, hn2⟩ : ∃ n2, n2 = (m ++ p.bs).length := ⟨_, rfl⟩
              rw [← hn2] at happ hq2 ⊢
              clear hn2 ho2
              have e0 : w2.cell? ⟨B, 1, none⟩ = some (.slice a' ml c') := hg2.cell d0 (fun e => hneB e.symm)
              have ef : w2.frozen? ⟨B, 1, none⟩ = false := by rw [World.frozen?_of_block (hg2.block B hblt (fun e => hneB e.symm))]; exact hfz
              have hch2 : Ch (BS B v) w (w2.setCell ⟨B, 1, none⟩ (Value.slice a2 n2 c2)) := hch.trans happ.2 (fun x hx hs => by
                rcases hs with hs | hs
                · exact .inl hs
                · rcases hq x hs with h | h
                  · exact .inr h
                  · omega)
              have hq3 : ∀ q, (Value.slice a2 n2 c2).ownBlock = some q → v.ownBlock = some q ∨ w.heap.size ≤ q := fun q h => by
                rcases hq2 q h with h | h
                · exact hq q h
                · have := hch.size; exact .inr (by omega)
              rw [← HM.out] at happ
              have HA : Hid (RBl (w2.setCell ⟨B, 1, none⟩ (Value.slice a2 n2 c2)) B (Value.slice a2 n2 c2) mx (l ++ flat (ps.take (j + 1)))) := happ.1
              have HQ3 : Hid (∀ q, (Value.slice a2 n2 c2).ownBlock = some q → v.ownBlock = some q ∨ w.heap.size ≤ q) := hq3
              clear happ hq2 hg2 hg2' hvv hq3
              go_wp2
              refine ⟨rfl, hK _ _ ?_⟩
              clear hK K
              refine Mix.one [false, false, false, false, false, false, false, false, false, false, true] 2 10 _ rfl rfl (by kernel_rfl) (by kernel_rfl) (fun K hK => ?_)
              simp only [Mix.pick]
              go_wp2
              refine ⟨rfl, hK _ _ ?_⟩
              clear hK K
              refine Mix.take [false, false, false, false, false, false, false, false, false, false, false, true] 1 (by kernel_rfl) (by kernel_rfl) (by decide) (by kernel_rfl) (fun K hK => ?_)
              simp only [Mix.pick]
              repeat (go_big_quiet_step (fail))
              refine wpQuiet_nil (hK _ ?_)
              clear hK K
              refine Mix.one [false, false, false, false, false, false, false, false, false, false, false, false, true] 0 12 _ rfl rfl (by kernel_rfl) (by kernel_rfl) (fun K hK => ?_)
              simp only [Mix.pick]
              go_wp2
              refine ⟨rfl, hK _ _ ?_⟩
              clear hK K
              refine Mix.done (by kernel_rfl) ?_
              go_wp2
              go_roundw
              case rel => exact ⟨j + 1, _, by omega, by go_num, HA.out, HQ3.out, hch2⟩
              case measure => simp [intOf]; omega
            · simp only [Mix.pick]
              go_wp2
              refine ⟨rfl, hK _ _ ?_⟩
              clear hK K
              refine Mix.one [false, false, false, false, true] 4 4 _ rfl rfl (by kernel_rfl) (by kernel_rfl) (fun K hK => ?_)
              simp only [Mix.pick]
              go_wp2
              refine ⟨rfl, hK _ _ ?_⟩
              clear hK K
              refine Mix.one [false, false, false, false, false, false, false, false, false, true] 3 9 _ rfl rfl (by kernel_rfl) (by kernel_rfl) (fun K hK => ?_)
              simp only [Mix.pick]
              go_wp2_with (at_builtin; refine append_split_seg rfl (.tmp 48) (.tmp 52) 22 rfl 0 5 i0 (.int .u8 0) 1 Try.underlying22 hi hz0 hz1 hz2 rfl (.slice a' ml c') ml ((toI m).map (Value.int .u8)) rfl (owns_drew hown) .u8 p.a pl p.cap (toI p.bs) rfl (by rw [toI_len, HPL.out]) hsg' (by unfold maxLen; omega) (by omega) (Nat.zero_le _) ?_)
              intro v2 w2 ho2 hq2 hg2'
              have hg2 : wr.grownBy w2 (Value.slice a' ml c').ownBlock := ⟨hg2'.os, hg2'.tape, hg2'.output, hg2'.size, hg2'.block⟩
              have hvv : v' = .slice a' ml c' := by rw [HML.out]; exact HSH.out
              rw [← hvv] at hq2 hg2
              rw [← List.map_append, HML.out, HPL.out, ← List.length_append, show toI m ++ toI p.bs = toI (m ++ p.bs) by simp [toI]] at ho2
              obtain ⟨a2, c2, rfl⟩ := owns_shape ho2
              have happ := hb.app ho2 hq2 hg2
              obtain ⟨n2, hn2⟩ : ∃ n2, n2 = (m ++ p.bs).length := ⟨_, rfl⟩
              rw [← hn2] at happ hq2 ⊢
              clear hn2 ho2
              have e0 : w2.cell? ⟨B, 1, none⟩ = some (.slice a' ml c') := hg2.cell d0 (fun e => hneB e.symm)
              have ef : w2.frozen? ⟨B, 1, none⟩ = false := by rw [World.frozen?_of_block (hg2.block B hblt (fun e => hneB e.symm))]; exact hfz
              have hch2 : Ch (BS B v) w (w2.setCell ⟨B, 1, none⟩ (Value.slice a2 n2 c2)) := hch.trans happ.2 (fun x hx hs => by
                rcases hs with hs | hs
                · exact .inl hs
                · rcases hq x hs with h | h
                  · exact .inr h
                  · omega)
              have hq3 : ∀ q, (Value.slice a2 n2 c2).ownBlock = some q → v.ownBlock = some q ∨ w.heap.size ≤ q := fun q h => by
                rcases hq2 q h with h | h
                · exact hq q h
                · have := hch.size; exact .inr (by omega)
              rw [← HM.out] at happ
              have HA : Hid (RBl (w2.setCell ⟨B, 1, none⟩ (Value.slice a2 n2 c2)) B (Value.slice a2 n2 c2) mx (l ++ flat (ps.take (j + 1)))) := happ.1
              have HQ3 : Hid (∀ q, (Value.slice a2 n2 c2).ownBlock = some q → v.ownBlock = some q ∨ w.heap.size ≤ q) := hq3
              clear happ hq2 hg2 hg2' hvv hq3
              go_wp2
              refine ⟨rfl, hK _ _ ?_⟩
              clear hK K
              refine Mix.one [false, false, false, false, false, false, false, false, false, false, true] 2 10 _ rfl rfl (by kernel_rfl) (by kernel_rfl) (fun K hK => ?_)
              simp only [Mix.pick]
              go_wp2
              refine ⟨rfl, hK _ _ ?_⟩
              clear hK K
              refine Mix.take [false, false, false, false, false, false, false, false, false, false, false, true] 1 (by kernel_rfl) (by kernel_rfl) (by decide) (by kernel_rfl) (fun K hK => ?_)
              simp only [Mix.pick]
              repeat (go_big_quiet_step (fail))
              refine wpQuiet_nil (hK _ ?_)
              clear hK K
              refine Mix.one [false, false, false, false, false, false, false, false, false, false, false, false, true] 0 12 _ rfl rfl (by kernel_rfl) (by kernel_rfl) (fun K hK => ?_)
              simp only [Mix.pick]
              go_wp2
              refine ⟨rfl, hK _ _ ?_⟩
              clear hK K
              refine Mix.done (by kernel_rfl) ?_
              go_wp2
              go_roundw
              case rel => exact ⟨j + 1, _, by omega, by go_num, HA.out, HQ3.out, hch2⟩
              case measure => simp [intOf]; omega
          · simp only [Mix.pick]
            go_wp2
            refine ⟨rfl, hK _ _ ?_⟩
            clear hK K
            refine Mix.one [false, false, true] 6 2 _ rfl rfl (by kernel_rfl) (by kernel_rfl) (fun K hK => ?_)
            simp only [Mix.pick]
            go_wp2
            refine ⟨rfl, hK _ _ ?_⟩
            clear hK K
            refine Mix.take [false, false, false, true] 5 (by kernel_rfl) (by kernel_rfl) (by decide) (by kernel_rfl) (fun K hK => ?_)
            simp only [Mix.pick]
            repeat (go_big_quiet_step (fail))
            refine wpQuiet_nil (hK _ ?_)
            clear hK K
            refine Mix.one [false, false, false, false, true] 4 4 _ rfl rfl (by kernel_rfl) (by kernel_rfl) (fun K hK => ?_)
            simp only [Mix.pick]
            go_wp2
            refine ⟨rfl, hK _ _ ?_⟩
            clear hK K
            refine Mix.one [false, false, false, false, false, false, false, false, false, true] 3 9 _ rfl rfl (by kernel_rfl) (by kernel_rfl) (fun K hK => ?_)
            simp only [Mix.pick]
            go_wp2_with (at_builtin; refine append_split_seg rfl (.tmp 48) (.tmp 52) 22 rfl 0 5 i0 (.int .u8 0) 1 Try.underlying22 hi hz0 hz1 hz2 rfl (.slice a' ml c') ml ((toI m).map (Value.int .u8)) rfl (owns_drew hown) .u8 p.a pl p.cap (toI p.bs) rfl (by rw [toI_len, HPL.out]) hsg' (by unfold maxLen; omega) (by omega) (Nat.zero_le _) ?_)
            intro v2 w2 ho2 hq2 hg2'
            have hg2 : wr.grownBy w2 (Value.slice a' ml c').ownBlock := ⟨hg2'.os, hg2'.tape, hg2'.output, hg2'.size, hg2'.block⟩
            have hvv : v' = .slice a' ml c' := by rw [HML.out]; exact HSH.out
            rw [← hvv] at hq2 hg2
            rw [← List.map_append, HML.out, HPL.out, ← List.length_append, show toI m ++ toI p.bs = toI (m ++ p.bs) by simp [toI]] at ho2
            obtain ⟨a2, c2, rfl⟩ := owns_shape ho2
            have happ := hb.app ho2 hq2 hg2
            obtain ⟨n2, hn2⟩ : ∃ n2, n2 = (m ++ p.bs).length := ⟨_, rfl⟩
            rw [← hn2] at happ hq2 ⊢
            clear hn2 ho2
            have e0 : w2.cell? ⟨B, 1, none⟩ = some (.slice a' ml c') := hg2.cell d0 (fun e => hneB e.symm)
            have ef : w2.frozen? ⟨B, 1, none⟩ = false := by rw [World.frozen?_of_block (hg2.block B hblt (fun e => hneB e.symm))]; exact hfz
            have hch2 : Ch (BS B v) w (w2.setCell ⟨B, 1, none⟩ (Value.slice a2 n2 c2)) := hch.trans happ.2 (fun x hx hs => by
              rcases hs with hs | hs
              · exact .inl hs
              · rcases hq x hs with h | h
                · exact .inr h
                · omega)
            have hq3 : ∀ q, (Value.slice a2 n2 c2).ownBlock = some q → v.ownBlock = some q ∨ w.heap.size ≤ q := fun q h => by
              rcases hq2 q h with h | h
              · exact hq q h
              · have := hch.size; exact .inr (by omega)
            rw [← HM.out] at happ
            have HA : Hid (RBl (w2.setCell ⟨B, 1, none⟩ (Value.slice a2 n2 c2)) B (Value.slice a2 n2 c2) mx (l ++ flat (ps.take (j + 1)))) := happ.1
            have HQ3 : Hid (∀ q, (Value.slice a2 n2 c2).ownBlock = some q → v.ownBlock = some q ∨ w.heap.size ≤ q) := hq3
            clear happ hq2 hg2 hg2' hvv hq3
            go_wp2
            refine ⟨rfl, hK _ _ ?_⟩
            clear hK K
            refine Mix.one [false, false, false, false, false, false, false, false, false, false, true] 2 10 _ rfl rfl (by kernel_rfl) (by kernel_rfl) (fun K hK => ?_)
            simp only [Mix.pick]
            go_wp2
            refine ⟨rfl, hK _ _ ?_⟩
            clear hK K
            refine Mix.take [false, false, false, false, false, false, false, false, false, false, false, true] 1 (by kernel_rfl) (by kernel_rfl) (by decide) (by kernel_rfl) (fun K hK => ?_)
            simp only [Mix.pick]
            repeat (go_big_quiet_step (fail))
            refine wpQuiet_nil (hK _ ?_)
            clear hK K
            refine Mix.one [false, false, false, false, false, false, false, false, false, false, false, false, true] 0 12 _ rfl rfl (by kernel_rfl) (by kernel_rfl) (fun K hK => ?_)
            simp only [Mix.pick]
            go_wp2
            refine ⟨rfl, hK _ _ ?_⟩
            clear hK K
            refine Mix.done (by kernel_rfl) ?_
            go_wp2
            go_roundw
            case rel => exact ⟨j + 1, _, by omega, by go_num, HA.out, HQ3.out, hch2⟩
            case measure => simp [intOf]; omega
        · have hjj : j = ps.length := by omega
          have HB : Hid (RBl wr B v' mx (l ++ flat ps)) := by
            show RBl wr B v' mx (l ++ flat ps)
            rw [hjj, List.take_length] at hb
            exact hb
          clear hb hjj
          go_wp2
          go_ret
          rw [HV.out] at hq hch
          exact ⟨rfl, v', HB.out, hq, hch⟩
end Go.Proofs.Ytcgfdhmegagjdaa
