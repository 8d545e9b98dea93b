/-
  Layer 17: Dump.
-/
import Derived.Test.YtclpeepnngegaaaDoorFlSg
namespace Go.Proofs.YtclpeepnngegaaaDoor
open Go.RowKit Go.Maps

theorem wpList_make_fl {ops : Array Oper} {rest : List Oper} {o : Oper} {a : Act} {w : World} {Q : Exit → Act → World → Prop} (hg : o.guard = none) (l c : Operand) (ho : o.op = .makeSlice 49 l c) (base n : Nat) (hn : n ≤ 4096) (hl : a.eval l = .int .i64 0) (hc : a.eval c = .int .i64 (n : Int)) (hb : base ≤ w.heap.size)
    (h : ∀ w', FL w' base (.slice (some ⟨w.heap.size, 0, none⟩) 0 n) [] → Below w.heap.size w w' → wpList Tryd.prog ops Q rest (a.put o.dst (.slice (some ⟨w.heap.size, 0, none⟩) 0 n)) w') : wpList Tryd.prog ops Q (o :: rest) a w := by
  obtain ⟨i1, z1, gi, gz0, gz1, gz2, gz3⟩ := Tryd.infoF
  refine wpList_make_own w hg l c 49 ho base 55 i1 z1 40 Tryd.underlying49 gi gz0 gz1 .i64 .i64 (n : Int) n hl hc rfl (Nat.le_trans (Nat.mul_le_mul gz3 hn) (by decide)) (by unfold maxLen; omega) hb ?_
  intro w' h1 h2
  exact h w' h1 ⟨h2.os, h2.tape, h2.output, h2.size, fun k hk => h2.block k hk (by simp)⟩
theorem wpList_lenN {ops : Array Oper} {rest : List Oper} {o : Oper} {a : Act} {w : World} {Q : Exit → Act → World → Prop} (m : Operand) (hg : o.guard = none) (ho : o.op = .call { callee := .builtin .len, args := #[m], argTypes := #[62] }) (M n : Nat) (hm : a.eval m = .map (some M)) (hT : ∀ ty, (Builtin.len_ #[62] ty #[.map (some M)]).run Tryd.prog w = .ok (.int .i64 (n : Nat)) w)
    (h : wpList Tryd.prog ops Q rest (a.put o.dst (.int .i64 (n : Nat))) w) : wpList Tryd.prog ops Q (o :: rest) a w := by
  refine wpList_plain hg fun K' hK' => ?_
  unfold Oper.wp
  simp [execOp, ho, resolve, invoke, builtin, hm, hT o.type, Result.andThen]
  exact hK' _ _ h
/-- all flows, in their order -/
def DumpR (E : List FV) (S : List FN) : Prop := S.Perm (E.map FV.n) ∧ S.Pairwise (fun a b => 0 ≤ ordV b a)
set_option maxHeartbeats 3200000 in
set_option maxRecDepth 100000 in
theorem dump_any (t M N : Nat) (c : CF) (E : List FV) (w : World) (h : TA w t M N c E) (hl : E.length ≤ 4096) : Calls Tryd.prog 19 #[.pointer (some ⟨t, 0, none⟩)] w fun r w' => ∃ v S, r = .returned v ∧ DumpR E S ∧ FL w' w.heap.size v S ∧ (∃ g cc, v = .slice (some ⟨g, 0, none⟩) S.length cc) ∧ Below w.heap.size w w' := by
  obtain ⟨D, hD⟩ := h.ma
  obtain ⟨n, hn⟩ : ∃ n, n = E.length := ⟨_, rfl⟩
  have HN : Hid (n = E.length ∧ n ≤ 4096) := ⟨hn, by omega⟩
  have HC : Hid (TA w t M N c E ∧ MA w M D (E.map FV.kp) ∧ Dj E) := ⟨h, hD, h.dj⟩
  have cm := TblAt.mp h.cb
  have HMO : Hid (w.ownsMap Tryd.prog 34 anyE M n D) := by have := hD.mo; rw [List.length_map, ← hn] at this; exact this
  have HLM : Hid (∀ ty, (Builtin.len_ #[62] ty #[.map (some M)]).run Tryd.prog w = .ok (.int .i64 (n : Nat)) w) := fun ty => by have := h.lenM ty; rw [← hn] at this; exact this
  clear h hD hl hn
  go_enter Tryd.func19, Tryd.ntmps19
  go_wp2_with (first | (refine wpList_lenN (.tmp 9) rfl rfl M n rfl HLM.out ?_) | (refine wpList_make_fl rfl (.const (.int .i64 0)) (.tmp 10) rfl w.heap.size n HN.out.2 rfl rfl (Nat.le_refl _) ?_))
  intro w1 hF1 b1
  obtain ⟨g1, hg1⟩ : ∃ g, g = w.heap.size := ⟨_, rfl⟩
  rw [← hg1] at hF1 ⊢
  have H1 : Hid (FL w1 w.heap.size (.slice (some ⟨g1, 0, none⟩) 0 n) [] ∧ Below w.heap.size w w1 ∧ MA w1 M D (E.map FV.kp) ∧ TA w1 t M N c E ∧ w1.ownsMap Tryd.prog 34 anyE M n D) := by
    refine ⟨by rw [← hg1]; exact hF1, b1, HC.out.2.1.below b1, HC.out.1.below b1, ?_⟩
    have h2 := (HC.out.2.1.below b1).mo
    rw [List.length_map, ← HN.out.1] at h2
    exact h2
  have cm1 := TblAt.mp H1.out.2.2.2.1.cb
  clear hF1 b1 hg1 cm HMO HLM
  go_wp2_with (first | (refine wpList_range_own _ rfl (.tmp 15) 62 rfl 34 67 lawR Tryd.underlying62 anyE M n D rfl H1.out.2.2.2.2 ?_))
  intro w2 hrg2 hg2 hs2
  have b2 : Below w1.heap.size w1 w2 := ⟨hg2.os, hg2.tape, hg2.output, hg2.size, fun k hk => hg2.block k hk (by simp)⟩
  obtain ⟨r, hr⟩ : ∃ r, r = w1.heap.size := ⟨_, rfl⟩
  rw [← hr] at hrg2 ⊢
  have HRW : Hid (w.heap.size ≤ r) := by have := H1.out.2.1.size; show w.heap.size ≤ r; omega
  have HR0 : Hid (w2.ranges Tryd.prog 34 anyE M r n D (Maps.has D) (Maps.size D) ∧ RL E [] (Maps.has D) ∧ TA w2 t M N c E ∧ FL w2 w.heap.size (.slice (some ⟨g1, 0, none⟩) 0 n) [] ∧ Below w.heap.size w w2) := ⟨hrg2, RL.start HC.out.2.1, H1.out.2.2.2.1.below b2, H1.out.1.below b2, bthen H1.out.2.1 b2⟩
  clear hrg2 hg2 hs2 b2 hr cm1 H1
  go_wp2_with fail
  go_loopw [3, 5] (fun l _ wr => ∃ (v : Value) (L : List FV) (left : Lit → Bool) (cnt : Nat), Hid (v = l) ∧ Hid (wr.ranges Tryd.prog 34 anyE M r n D left cnt ∧ RL E L left ∧ TA wr t M N c E ∧ FL wr w.heap.size v (L.map FV.n) ∧ Below w.heap.size w wr ∧ ∃ g cc, v = .slice (some ⟨g, 0, none⟩) L.length cc)) (fun _ _ wr => wr.rangeLeft M r)
  case atStart => exact ⟨_, [], _, _, rfl, HR0.out.1, HR0.out.2.1, HR0.out.2.2.1, HR0.out.2.2.2.1, HR0.out.2.2.2.2, g1, n, rfl⟩
  case round =>
    obtain ⟨v, L, left, cnt, HEQ, HR⟩ := hrel
    obtain rfl := HEQ.out
    clear HEQ HR0
    go_wp2_with (first | (refine wpList_next_ranges (α := Value) (β := Value) _ rfl (.tmp 16) rfl 34 lawR anyE id id (fun k _ _ => ⟨k, rfl⟩) (fun v _ _ => ⟨v, rfl⟩) M r n D left cnt rfl HR.out.1 ?_ ?_))
    · intro hc0 hl0
      obtain ⟨hall, hperm⟩ := HR.out.2.1.done HC.out.2.2 HC.out.1.wf hl0
      have HP : Hid (L.Perm E) := hperm
      obtain ⟨g, cc, hv⟩ := HR.out.2.2.2.2.2
      have QS : Hid _ := sorts wr w.heap.size v (L.map FV.n) HR.out.2.2.2.1 ⟨g, cc, by rw [List.length_map]; exact hv⟩ (by rw [List.length_map, hperm.length_eq]; have := HN.out; omega)
      have HV : Hid (v = .slice (some ⟨g, 0, none⟩) L.length cc) := hv
      clear hc0 hl0 hall hperm hv
      go_wp2_with fail
      refine Calls.mono QS.out ?_
      rintro e3 w3 ⟨rfl, S, hp, hso, hF3, k3⟩
      have H3 : Hid (DumpR E S ∧ FL w3 w.heap.size v S ∧ (∃ g cc, v = .slice (some ⟨g, 0, none⟩) S.length cc) ∧ Below w.heap.size w w3) := by
        refine ⟨⟨hp.trans (HP.out.map FV.n), hso⟩, hF3, ⟨g, cc, ?_⟩, ?_⟩
        · rw [hp.length_eq, List.length_map]
          exact HV.out
        · have hcl := HR.out.2.2.2.1.cells
          exact HR.out.2.2.2.2.1.trans (k3.below (fun q hq => (hcl q hq).1) HR.out.2.2.2.2.1.size)
      clear hp hso hF3 k3 QS
      go_wp2_with fail
      go_ret
      exact ⟨v, S, rfl, H3.out⟩
    · intro key cv kl yd yp w3 cnt3 hkey hleft hR hat hrg3 hlt3 hg3 hs3 hen
      obtain ⟨s, hsE, hk, hnL⟩ := HR.out.2.1.lft kl hleft
      have hcv : cv = .pointer (some ⟨s.P, 0, none⟩) := by
        have h1 := (HC.out.2.1.hs s.n.x kl hk).2
        rw [ptr_pt, fF_mem HC.out.2.2 hsE (eqP_refl _), hat] at h1
        have hy : (yd, yp) = ((.held cv, []) : DataW Value × List MemPlace) := by
          have : some ((DataW.held (id cv) : DataW Value), ([] : List MemPlace)) = some (yd, yp) := hR
          exact (Option.some.inj this).symm
        have hy1 : yd = .held cv := congrArg Prod.fst hy
        rw [hy1] at h1
        have h2 : (DataW.held cv : DataW Value) = .held (ptF (some s)) := h1
        simpa [ptF] using h2
      have hkv : key = .agg (tuC s.n.x) := lawR.inj hkey hk
      subst hcv hkv
      have k3 : Ch (fun q => q = r) wr w3 := (Ch.ofGrown hg3).mono (fun q _ hq => by have e : some r = some q := hq; simp at e; exact e.symm)
      have b3 : Below w.heap.size w w3 := HR.out.2.2.2.2.1.trans (k3.below (fun q hq => by have h' : q = r := hq; have := HRW.out; omega) HR.out.2.2.2.2.1.size)
      have hF3 : FL w3 w.heap.size v (L.map FV.n) := HR.out.2.2.2.1.ch k3 (fun g hg e => by
        have e' : g = r := e
        obtain ⟨_, _, _, _, hit⟩ := ranges_it HR.out.1
        obtain ⟨_, _, cc, hcc⟩ := HR.out.2.2.2.1.cells g hg
        rw [e'] at hcc
        rw [hcc] at hit
        cases hit)
      have HX : Hid (w3.ranges Tryd.prog 34 anyE M r n D (fun z => left z && !z.sameKey kl) cnt3 ∧ RL E (L ++ [s]) (fun z => left z && !z.sameKey kl) ∧ TA w3 t M N c E ∧ FL w3 w.heap.size v (L.map FV.n) ∧ Below w.heap.size w w3 ∧ cnt3 < cnt ∧ (L.map FV.n).length ≤ 100000 ∧ FloAt w3 s.P s.n) := by
        have h1 := HR.out.2.1.next (left' := fun z => left z && !z.sameKey kl) HC.out.2.2 hsE hk hnL (fun z => by simp)
        have hT : TA w3 t M N c E := HC.out.1.below b3
        have h2 := len_sub HR.out.2.1.dj HR.out.2.1.sub
        have h3 := HN.out
        exact ⟨hrg3, h1, hT, hF3, b3, hlt3, by rw [List.length_map]; omega, hT.en s hsE⟩
      have HSE : Hid (s ∈ E) := hsE
      clear hkey hleft hR hat hrg3 hlt3 hg3 hs3 hsE hnL hk k3 b3 hF3
      obtain ⟨Z, hZ⟩ : ∃ Z, Z = w3.alloc (.cells (flC s.n) 55) := ⟨_, rfl⟩
      have bZ : Below w3.heap.size w3 Z := by rw [hZ]; exact (Below.refl _ _).alloc (Nat.le_refl _) _
      obtain ⟨O, hO⟩ : ∃ O, O = w3.heap.size := ⟨_, rfl⟩
      have HZ : Hid (Z.ranges Tryd.prog 34 anyE M r n D (fun z => left z && !z.sameKey kl) cnt3 ∧ TA Z t M N c E ∧ FL Z w.heap.size v (L.map FV.n) ∧ Below w.heap.size w Z ∧ FloAt Z O s.n ∧ w3.alloc (.cells (flC s.n) 55) = Z ∧ w3.heap.size = O) := ⟨ranges_ch (S := fun _ => False) HX.out.1 (Ch.ofBelow bZ) id id, HX.out.2.2.1.below bZ, HX.out.2.2.2.1.below bZ, bthen HX.out.2.2.2.2.1 bZ, by rw [hZ, hO]; exact flo_new w3 s.n, hZ.symm, hO.symm⟩
      clear hZ bZ hO
      (try simp only [id] at hen ⊢)
      go_wp2_with (first | (refine wpList_load_flo (.tmp 23) rfl s.P s.n rfl HX.out.2.2.2.2.2.2.2 rfl ?_) | (refine wpList_bs1f (.tmp 24) rfl s.n rfl rfl ?_; rw [HZ.out.2.2.2.2.2.1, HZ.out.2.2.2.2.2.2]) | (refine wpList_app1f rfl (.tmp 21) (.tmp 25) rfl w.heap.size v (L.map FV.n) rfl HZ.out.2.2.1 O s.n rfl HZ.out.2.2.2.2.1 HX.out.2.2.2.2.2.2.1 HZ.out.2.2.2.1.size ?_))
      intro v' w6 hl6 hg6 hv6
      have H6 : Hid (w6.ranges Tryd.prog 34 anyE M r n D (fun z => left z && !z.sameKey kl) cnt3 ∧ TA w6 t M N c E ∧ FL w6 w.heap.size v' ((L ++ [s]).map FV.n) ∧ Below w.heap.size w w6 ∧ ∃ g cc, v' = .slice (some ⟨g, 0, none⟩) (L ++ [s]).length cc) := by
        have k6 := Ch.ofGrown hg6
        have hcl := HZ.out.2.2.1.cells
        have b6 : Below w.heap.size w w6 := HZ.out.2.2.2.1.trans (k6.below (fun q e => (hcl q e).1) HZ.out.2.2.2.1.size)
        refine ⟨ranges_ch HZ.out.1 k6 (fun e => ?_) (fun e => ?_), HC.out.1.below b6, by rw [List.map_append]; exact hl6, b6, ?_⟩
        · obtain ⟨h1, _, cc, hcc⟩ := hcl M e
          have := HC.out.1.tlt M (.inr (.inl rfl))
          omega
        · obtain ⟨_, _, cc, hcc⟩ := hcl r e
          obtain ⟨_, _, _, _, hit⟩ := ranges_it HZ.out.1
          rw [hcc] at hit
          cases hit
        · rcases hl6.2 with ⟨e1, e2⟩ | ⟨g6, cap6, cur6, e1, _⟩
          · rw [List.length_append] at e2; simp at e2
          · refine ⟨g6, cap6, ?_⟩
            rw [e1]
            simp
      clear hl6 hg6 hv6
      go_wp2_with fail
      go_roundw
      case rel => exact ⟨v', L ++ [s], _, _, rfl, H6.out.1, HX.out.2.1, H6.out.2.1, H6.out.2.2.1, H6.out.2.2.2.1, H6.out.2.2.2.2⟩
      case measure => rw [H6.out.1.left_eq, HR.out.1.left_eq]; exact HX.out.2.2.2.2.2.1
end Go.Proofs.YtclpeepnngegaaaDoor
