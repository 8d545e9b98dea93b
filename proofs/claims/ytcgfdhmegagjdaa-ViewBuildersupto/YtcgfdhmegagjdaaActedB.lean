/-
  The statements' acted: Bytes.
-/
import Derived.Test.YtcgfdhmegagjdaaActedD
namespace Go.Proofs.Ytcgfdhmegagjdaa
open Go.RowKit

theorem flat_bs (ps : List PV) : flat ps = (ps.map PV.bs).flatten := by
  induction ps with
  | nil => rfl
  | cons p ps ih => simp [flat, ih]
theorem ground_split (ps : List PV) (k : Nat) : ground ps = ground (ps.take k) ++ ground (ps.drop k) := by
  induction ps generalizing k with
  | nil => simp [ground]
  | cons p ps ih =>
    cases k with
    | zero => simp [ground]
    | succ k => simp [ground]; exact ih k
theorem ground_part (ps : List PV) (k : Nat) (p : PV) (h : ps[k]? = some p) : ((ground ps).drop (ground (ps.take k)).length).take p.bs.length = p.bs := by
  rw [ground_split ps k, List.drop_left]
  have hk : k < ps.length := (List.getElem?_eq_some_iff.1 h).1
  have e : ps[k] = p := (List.getElem?_eq_some_iff.1 h).2
  rw [List.drop_eq_getElem_cons hk, e]
  simp [ground]
/-- the parts as they are cut out of the array in the block g -/
def qsOf (g c : Nat) (ps : List PV) : List PV := (List.range ps.length).map (fun k => ⟨some ⟨g, (ground (ps.take k)).length, none⟩, c - (ground (ps.take k)).length, (ps[k]?.map PV.bs).getD []⟩)
theorem qsOf_len (g c : Nat) (ps : List PV) : (qsOf g c ps).length = ps.length := by simp [qsOf]
theorem qsOf_bs (g c : Nat) (ps : List PV) : (qsOf g c ps).map PV.bs = ps.map PV.bs := by
  apply List.ext_getElem?
  intro i
  simp only [qsOf, List.map_map, List.getElem?_map]
  by_cases hi : i < ps.length
  · rw [List.getElem?_range hi]
    simp [hi]
  · rw [List.getElem?_eq_none (by simp; omega), List.getElem?_eq_none (by omega)]
    rfl
theorem qsOf_flat (g c : Nat) (ps : List PV) : flat (qsOf g c ps) = flat ps := by rw [flat_bs, flat_bs, qsOf_bs]
theorem qsOf_mem (g c : Nat) (ps : List PV) (M : Nat) (h : ∀ p ∈ ps, p.bs.length ≤ M) : ∀ p ∈ qsOf g c ps, p.bs.length ≤ M := by
  intro p hp
  have : p.bs ∈ (qsOf g c ps).map PV.bs := List.mem_map.2 ⟨p, hp, rfl⟩
  rw [qsOf_bs] at this
  obtain ⟨q, hq, e⟩ := List.mem_map.1 this
  rw [← e]; exact h q hq
theorem cut_parts {w : World} {b0 b1 g c gL m cL : Nat} {ps : List PV} {rest : List Value} {S : Nat → Prop} (hW : w.ownsRow b0 5 1 (.slice (some ⟨g, 0, none⟩) (ground ps).length c) (ground ps).length ((toI (ground ps)).map (Value.int .u8)))
    (hL : w.ownsRow b1 22 1 (.slice (some ⟨gL, 0, none⟩) m cL) m (cutPs g c ps ps.length ++ rest)) (hg : ¬ S g) (hgL : ¬ S gL) : PartsAt w S (some ⟨gL, 0, none⟩) (qsOf g c ps) := by
  refine .inr ⟨gL, 0, rfl, hgL, (hL.lt gL rfl).2, fun i p hp => ?_⟩
  have hi : i < ps.length := by
    have := (List.getElem?_eq_some_iff.1 hp).1
    rwa [qsOf_len] at this
  have hpe : p = ⟨some ⟨g, (ground (ps.take i)).length, none⟩, c - (ground (ps.take i)).length, ps[i].bs⟩ := by
    have e : (qsOf g c ps)[i]? = some ⟨some ⟨g, (ground (ps.take i)).length, none⟩, c - (ground (ps.take i)).length, ps[i].bs⟩ := by
      simp [qsOf, hi]
    rw [hp] at e
    exact Option.some.inj e
  have hpk : ps[i]? = some ps[i] := by simp [hi]
  have hm := hL.1
  simp [cutPs_len] at hm
  refine ⟨?_, ?_, ?_⟩
  · rw [Nat.zero_add, hL.cellAt i (by omega), List.getElem?_append_left (by rw [cutPs_len]; exact hi)]
    simp only [cutPs, List.getElem?_map, List.getElem?_range hi, Option.map_some, cutP, hpk, hpe, Option.getD_some]
  · rw [hpe]
    have hseg := (owns_seg_at hW).part (ground (ps.take i)).length ps[i].bs.length (by
      rw [toI_len, ground_split ps i, List.length_append, List.drop_eq_getElem_cons hi]
      simp [ground])
    rw [toI_drop, toI_take, ground_part ps i _ hpk, Option.map_some, Addr.add_lit, Nat.zero_add] at hseg
    exact hseg
  · intro y _ hy
    rw [hpe] at hy
    simp at hy
    subst hy
    exact hg
theorem AfterP.post {w w1 w2 : World} {B R : Nat} {v rv : Value} {mx : Nat} (h : AfterP w B R v rv mx w1) (k : Below w1.heap.size w1 w2) : AfterP w B R v rv mx w2 := by
  obtain ⟨v', rv', l', hp, hq, hc⟩ := h
  exact ⟨v', rv', l', hp.below k, hq, hc.trans (Ch.ofBelow (S := PSet B R v rv) k) (fun _ _ s => s)⟩
theorem AfterP.fin {w w3 w6 w7 : World} {B R : Nat} {v rv : Value} {mx : Nat} {l : List Nat} {S : Nat → Prop} (hp0 : Pair w B R v rv mx l) (hB : Below w.heap.size w w3) (h : AfterP w3 B R v rv mx w6) (k : Ch S w6 w7) (hS : ∀ x, S x → w.heap.size ≤ x ∧ x < w3.heap.size) : AfterP w B R v rv mx w7 := by
  obtain ⟨v', rv', l', hp, hq, hc⟩ := h
  refine ⟨v', rv', l', hp.ch k (fun x hx s => ?_), fun q hx => ?_, ((Ch.ofBelow hB).trans hc (fun _ _ s => s)).trans k (fun x hx s => by have := hS x s; omega)⟩
  · have := hS x s
    rcases hq x hx with h | h
    · have := hp0.lt x h; omega
    · omega
  · rcases hq q hx with h | h
    · exact .inl h
    · exact .inr (Nat.le_trans hB.size h)
theorem bytesB_n (B : Nat) (v : Value) (mx : Nat) (l : List Nat) (pa : Option Addr) (cap n : Nat) (ps : List PV) (w : World) (hn : ps.length = n) (h : Bld w B v mx l) (hp : PartsAt w (BS B v) pa ps) (hmx : mx ≤ 65535) (hl : l.length ≤ mx) (hpl : ps.length ≤ 9223372036854775807) (hbs : ∀ p ∈ ps, p.bs.length ≤ 4611686018427387904) :
    Calls Try.prog 11 #[.pointer (some ⟨B, 0, none⟩), .slice pa n cap] w fun e w' => e = .returned (.int .i64 (bE ps l.length mx)) ∧ After Bld w B v mx (bL ps l mx) w' := by
  subst hn
  exact bytesB_total B v mx l pa cap ps w h hp hmx hl hpl hbs
theorem bL_256 (ps : List PV) (l : List Nat) (mx : Nat) (h : ∀ x ∈ l, x < 256) (hp : ∀ p ∈ ps, ∀ x ∈ p.bs, x < 256) : ∀ x ∈ bL ps l mx, x < 256 := by
  unfold bL
  split
  · exact h
  · intro x hx
    rcases List.mem_append.1 hx with hx | hx
    · exact h x hx
    · rw [flat_bs] at hx
      obtain ⟨b, hb, hx⟩ := List.mem_flatten.1 hx
      obtain ⟨p, hp', rfl⟩ := List.mem_map.1 hb
      exact hp p hp' x hx
theorem bL_len (ps : List PV) (l : List Nat) (mx : Nat) (h : l.length ≤ mx) : (bL ps l mx).length ≤ mx := by
  unfold bL
  split
  · exact h
  · simp; omega
theorem bE_qs (g c : Nat) (ps : List PV) (n mx : Nat) : bE (qsOf g c ps) n mx = bE ps n mx := by rw [bE, bE, qsOf_flat]
theorem bL_qs (g c : Nat) (ps : List PV) (l : List Nat) (mx : Nat) : bL (qsOf g c ps) l mx = bL ps l mx := by rw [bL, bL, qsOf_flat]
theorem cell_ptr2 (w : World) (x : Value) (t : TypeId) (n : Nat) (hn : n = w.heap.size) : ∀ j u, [x][j]? = some u → (w.alloc (.cells #[x] t)).cell? ((⟨n, 0, none⟩ : Addr).add j) = some u := by subst hn; exact cell_ptr' w x t
/-- the marks behind the list of parts -/
def mk1 (g : Nat) : Value := .slice (some ⟨g, 0, none⟩) 1 1
theorem apart2 {w : World} {B B' : Nat} {e e' : TypeId} {v v' : Value} {n n' : Nat} {xs xs' : List Value} (h : w.ownsRow B e 1 v n xs) (h' : w.ownsRow B' e' 1 v' n' xs') (hne : e ≠ e') : ∀ g, v.ownBlock = some g → ¬ v'.ownBlock = some g := by
  intro g hg hg'
  rcases apart h h' hne with e | e
  · rw [hg] at e; cases e
  · exact e (by rw [hg, hg'])

set_option maxRecDepth 100000 in
set_option maxHeartbeats 3200000 in
theorem acted_bytes (w : World) (B R : Nat) (v rv : Value) (mx : Nat) (l : List Nat) (obj at' n : Int) (x : Nat) (pa : Option Addr) (np cap : Nat) (ps : List PV) (hnp : ps.length = np) (h : Pair w B R v rv mx l) (hp : PartsAt w (PSet B R v rv) pa ps) (hpl : np ≤ 1048576) (hbs : ∀ p ∈ ps, p.bs.length ≤ 1048576) (hp256 : ∀ p ∈ ps, ∀ x ∈ p.bs, x < 256) : ActsAs w B R v rv mx 2 obj at' n x pa np cap := by
  unfold ActsAs
  subst hnp
  obtain ⟨i0, hi, hz0, hz1, hz2⟩ := info_parts Try.infoByte
  obtain ⟨j0, gi, gz0, gz1, gz2⟩ := info_parts Try.infoSl
  go_enter Try.func20, Try.ntmps20
  go_wp2_with fail
  obtain ⟨w0, hw0⟩ : ∃ w0, w0 = w.alloc (.cells #[.int .i64 2, .int .i64 obj, .int .i64 at', .int .i64 n, .int .u64 (x : Int), .slice pa ps.length cap] 49) := ⟨_, rfl⟩
  have hbx : Below w.heap.size w w0 := by rw [hw0]; exact (Below.refl _ _).alloc (Nat.le_refl _) _
  have k5 : w0.cell? ⟨w.heap.size, 5, none⟩ = some (.slice pa ps.length cap) := by rw [hw0]; exact (box_cells w 2 obj at' n x _ _).2.2.2.2
  have hs0 : w.heap.size < w0.heap.size := by rw [hw0]; simp
  have hlt0 := h.lt
  rw [← hw0]
  have hP := h.below hbx
  have hp0 := hp.below hbx
  have hpn : PartsAt w0 none_ pa ps := hp0.mono (fun _ _ s => s.elim)
  clear hw0
  obtain ⟨N, hN⟩ : ∃ N, N = ps.length := ⟨_, rfl⟩
  rw [← hN] at k5 hpl ⊢
  have HN : Hid (ps.length = N) := hN.symm
  have HF : Hid _ := few_any pa cap ps w0 hpn (by rw [HN.out]; exact hpl) hbs
  rw [← hN] at HF
  refine Calls.mono HF.out ?_
  rintro e w1 ⟨b, rfl, rfl, hfew⟩
  clear HF
  cases b with
  | false =>
    clear hN hfew
    go_wp2
    go_ret
    exact ⟨rfl, .same h hbx⟩
  | true =>
    have hsum := hfew rfl
    have HSUM : Hid ((flat ps).length + ps.length ≤ 4194304) := hsum
    have HC1 : Hid _ := cuts_any pa cap ps w0 hpn (by rw [HN.out]; exact hpl) hsum
    rw [← hN] at HC1
    clear hsum hfew hN
    go_wp2_with fail
    refine Calls.mono HC1.out ?_
    rintro e w1 ⟨lv, wa, c, rfl, hW1, hlv1, hlv2, hb1⟩
    clear HC1
    obtain ⟨g, hgw, hL1⟩ : ∃ g, (ps ≠ [] → wa = some ⟨g, 0, none⟩) ∧ w1.ownsRow w0.heap.size 22 1 lv N (cutPs g c ps ps.length) := by
      by_cases e : ps = []
      · refine ⟨0, fun h => absurd e h, ?_⟩
        rw [hlv2 e, ← HN.out, e]
        exact World.ownsRow_nil _ _ _ _
      · obtain ⟨g, e1, e2⟩ := hlv1 e
        exact ⟨g, fun _ => e1, by rw [HN.out]; exact e2⟩
    have HGW : Hid (ps ≠ [] → wa = some ⟨g, 0, none⟩) := hgw
    have k51 : w1.cell? ⟨w.heap.size, 5, none⟩ = some (.slice pa N cap) := (hb1.cell hs0).trans k5
    have HC2 : Hid _ := cuts_any pa cap ps w1 (hpn.below hb1) (by rw [HN.out]; exact hpl) HSUM.out
    rw [HN.out] at HC2
    obtain ⟨G, hG⟩ : ∃ G, G = (ground ps).length := ⟨_, rfl⟩
    rw [← hG] at hW1 HC2 ⊢
    have HG : Hid (G = (ground ps).length) := hG
    have hGb : G ≤ 400000000 := by
      have := ground_len ps
      have h1 := HSUM.out
      omega
    clear hG hlv1 hlv2 hgw k5
    go_wp2_with fail
    refine Calls.mono HC2.out ?_
    rintro e w2 ⟨lv2, wa2, c2, rfl, hW2, hlv3, hlv4, hb2⟩
    obtain ⟨a2, cc2, rfl⟩ : ∃ a2 cc2, lv2 = .slice a2 N cc2 := by
      by_cases e : ps = []
      · rw [hlv4 e, ← HN.out, e]; exact ⟨none, 0, rfl⟩
      · obtain ⟨_, _, e2⟩ := hlv3 e
        exact owns_shape e2
    have hL2 := (Ch.ofBelow (S := none_) hb2).owns hL1 (fun _ _ => id)
    have hW2' := (Ch.ofBelow (S := none_) hb2).owns hW1 (fun _ _ => id)
    have k52 : w2.cell? ⟨w.heap.size, 5, none⟩ = some (.slice pa N cap) := (hb2.cell (Nat.lt_of_lt_of_le hs0 hb1.size)).trans k51
    have hB2 : Below w0.heap.size w0 w2 := hb1.trans (hb2.mono hb1.size)
    obtain ⟨C, hC⟩ : ∃ C, C = cutPs g c ps ps.length := ⟨_, rfl⟩
    rw [← hC] at hL2
    have HC : Hid (C = cutPs g c ps ps.length) := hC
    have HCN : Hid (C.length = N) := by show _ = _; rw [hC, cutPs_len, HN.out]
    obtain ⟨la, lc, rfl⟩ := owns_shape hL1
    clear HC2 hW2 hlv3 hlv4 hL1 hW1 k51 hC
    go_wp2
    go_loopw [13, 14] (fun v' ix wr => ∃ gs : List Nat, gs.length ≤ 20 ∧ ix = .int .i64 (gs.length : Nat) ∧ wr.ownsRow w0.heap.size 22 1 v' (N + gs.length) (C ++ gs.map mk1) ∧ (∀ y ∈ gs, wr.ownsRow w0.heap.size 5 1 (mk1 y) 1 [.int .u8 207]) ∧
        wr.ownsRow w0.heap.size 5 1 (.slice wa G c) G ((toI (ground ps)).map (Value.int .u8)) ∧ Below w0.heap.size w0 wr) (fun _ ix _ => 20 - (intOf ix).toNat)
    case atStart => exact ⟨[], by simp, rfl, by simpa using hL2, by simp, hW2', hB2⟩
    case round =>
      obtain ⟨gs, hgs, rfl, hL, hM, hW, hbel⟩ := hrel
      clear hL2 hW2' hB2
      obtain ⟨k, hk⟩ : ∃ k, k = gs.length := ⟨_, rfl⟩
      rw [← hk] at hgs hL ⊢
      have HK : Hid (gs.length = k) := hk.symm
      clear hk
      by_cases hlt : k < 20
      · go_wp2_with (at_builtin; refine wpList_append_own _ rfl (.tmp 71) (.tmp 73) 36 rfl w0.heap.size 22 j0 (.slice none 0 0) 1 24 Try.underlying36 gi gz0 gz1 gz2 rfl (by decide) _ _ _ rfl ((hL.alloc _).alloc _) ⟨wr.heap.size + 1, 0, none⟩ 1 1 [mk1 wr.heap.size] rfl rfl ?c1 ?c2 ?c3 ?c4 ?c5 ?_)
        case c1 => exact cell_ptr2 _ _ _ _ (by simp)
        case c2 => intro u hu; simp at hu; subst hu; rfl
        case c3 => unfold maxLen; omega
        case c4 => omega
        case c5 => have := hbel.size; simp; omega
        intro v2 u2 ho2 hg2 _
        have hnew : (wr.alloc (.cells #[.int .u8 207] 5)).ownsRow w0.heap.size 5 1 (mk1 wr.heap.size) 1 [.int .u8 207] := to_own (by show (wr.heap.push _)[wr.heap.size]? = some _; simp) hbel.size rfl (by unfold maxLen; omega)
        have hch := Ch.ofGrown hg2
        have hbel2 : Below w0.heap.size w0 u2 := ((hbel.alloc hbel.size _).alloc (by have := hbel.size; simp; omega) _).grown hg2 (by have := hbel.size; simp; omega) (fun j hj => (hL.lt j hj).1)
        have hW' := hch.owns ((hW.alloc _).alloc _) (apart2 hW hL (by decide))
        have hM' : ∀ y ∈ gs ++ [wr.heap.size], u2.ownsRow w0.heap.size 5 1 (mk1 y) 1 [.int .u8 207] := by
          intro y hy
          rcases List.mem_append.1 hy with hy | hy
          · exact hch.owns (((hM y hy).alloc _).alloc _) (apart2 (hM y hy) hL (by decide))
          · simp at hy
            subst hy
            exact hch.owns (hnew.alloc _) (apart2 hnew (hL.alloc _) (by decide))
        have HL' : Hid (u2.ownsRow w0.heap.size 22 1 v2 (N + (gs ++ [wr.heap.size]).length) (C ++ (gs ++ [wr.heap.size]).map mk1)) := by
          show World.ownsRow _ _ _ _ _ _ _
          rw [List.length_append, HK.out, List.map_append]
          exact ho2
        clear ho2 hg2 hch hL hM hW hbel hnew
        go_wp2
        go_roundw
        case rel => exact ⟨gs ++ [wr.heap.size], by rw [List.length_append, HK.out]; simp; omega, by rw [List.length_append, HK.out]; go_num, HL'.out, hM', hW', hbel2⟩
        case measure => simp [intOf]; omega
      · have hk20 : k = 20 := by omega
        subst hk20
        obtain ⟨w3, rfl⟩ : ∃ w3, w3 = wr := ⟨_, rfl⟩
        obtain ⟨gL, cL, rfl, hcl1, hcl2⟩ := own_block hL (by omega)
        unfold maxLen at hcl2
        have hlgL := hL.lt gL rfl
        have hP3 := hP.below hbel
        have hp3 := hp0.below hbel
        have k53 : w3.cell? ⟨w.heap.size, 5, none⟩ = some (.slice pa N cap) := (hbel.cell hs0).trans (by
          have := k52
          exact (Below.cell (hb1.trans (hb2.mono hb1.size)) hs0).symm.trans this)
        have hout : ∀ y, w.heap.size ≤ y → ¬ PSet B R v rv y := fun y hy s => by have := hlt0 y s; omega
        have hqs : PartsAt w3 (BS B v) (some ⟨gL, 0, none⟩) (qsOf g c ps) := by
          by_cases e : ps = []
          · exact .inl (by rw [e]; rfl)
          · have e1 := HGW.out e
            have hW0 := hW
            rw [e1, HG.out] at hW0
            have hL0 := hL
            rw [HC.out] at hL0
            refine cut_parts hW0 hL0 (fun s => hout g ?_ (.inl s)) (fun s => hout gL ?_ (.inl s))
            · have := (hW0.lt g rfl).1; omega
            · omega
        have HB : Hid _ := bytesB_n B v mx l (some ⟨gL, 0, none⟩) cL N (qsOf g c ps) w3 (by rw [qsOf_len, HN.out]) hP3.bld hqs hP3.hmx hP3.hl (by rw [qsOf_len, HN.out]; omega) (fun p hp' => by have := qsOf_mem g c ps 1048576 hbs p hp'; omega)
        rw [bE_qs, bL_qs] at HB
        clear hqs k52 hb1 hb2 hlt
        go_wp2_with fail
        refine Calls.mono HB.out ?_
        rintro e w4 ⟨rfl, hA⟩
        clear HB
        have hR := hP3.mid hA
        obtain ⟨v4, hb4, hq4, hch4⟩ := hA
        have hA : After Bld w3 B v mx (bL ps l mx) w4 := ⟨v4, hb4, hq4, hch4⟩
        have hch4' := hch4.mono (T := PSet B R v rv) (fun _ _ s => .inl s)
        have hp4 := hp3.ch hch4'
        have hL4 := hch4'.owns hL (fun y hy => hout y (by have := (hL.lt y hy).1; omega))
        have hW4 := hch4'.owns hW (fun y hy => hout y (by have := (hW.lt y hy).1; omega))
        have hM4 : ∀ y ∈ gs, w4.ownsRow w0.heap.size 5 1 (mk1 y) 1 [.int .u8 207] := fun y hy => hch4'.owns (hM y hy) (fun z hz => hout z (by have := ((hM y hy).lt z hz).1; omega))
        have k54 : w4.cell? ⟨w.heap.size, 5, none⟩ = some (.slice pa N cap) := hch4'.cell k53 (hout _ (Nat.le_refl _))
        have HJ : Hid _ := joinR_total R rv mx l pa cap ps w4 hR (hp4.mono (fun _ _ s => .inr s)) hP3.hmx hP3.hl (by rw [HN.out]; omega) (fun p hp' => by have := hbs p hp'; omega)
        rw [HN.out] at HJ
        obtain ⟨er, her⟩ : ∃ er, er = bE ps l.length mx := ⟨_, rfl⟩
        rw [← her] at HJ ⊢
        clear her hch4 hb4 hq4 k53
        go_wp2_with fail
        refine Calls.mono HJ.out ?_
        rintro e w5 ⟨rfl, hA5⟩
        clear HJ
        have hAP := hP3.two (bL_len ps l mx hP3.hl) (bL_256 ps l mx hP3.h256 hp256) hA hA5
        obtain ⟨v5, hb5, hq5, hch5⟩ := hA5
        have hch5' := hch5.mono (T := PSet B R v rv) (fun _ _ s => .inr s)
        have hp5 := hp4.ch hch5'
        have hL5 := hch5'.owns hL4 (fun y hy => hout y (by have := (hL4.lt y hy).1; omega))
        have hW5 := hch5'.owns hW4 (fun y hy => hout y (by have := (hW4.lt y hy).1; omega))
        have hM5 : ∀ y ∈ gs, w5.ownsRow w0.heap.size 5 1 (mk1 y) 1 [.int .u8 207] := fun y hy => hch5'.owns (hM4 y hy) (fun z hz => hout z (by have := ((hM4 y hy).lt z hz).1; omega))
        have k55 : w5.cell? ⟨w.heap.size, 5, none⟩ = some (.slice pa N cap) := hch5'.cell k54 (hout _ (Nat.le_refl _))
        have HC3 : Hid _ := cuts_any pa cap ps w5 (hp5.mono (fun _ _ s => s.elim)) (by rw [HN.out]; exact hpl) HSUM.out
        rw [HN.out, ← HG.out] at HC3
        clear hch5 hb5 hq5 k54 hch4' hch5' hL4 hW4 hM4 hp4 hp5 hR hA
        go_wp2_with fail
        refine Calls.mono HC3.out ?_
        rintro e w6 ⟨lv6, wa6, c6, rfl, hW6, _, _, hb6⟩
        clear HC3
        have hAP6 := hAP.post hb6
        have hLL := (Ch.ofBelow (S := none_) hb6).owns hL5 (fun _ _ => id)
        have hWW := (Ch.ofBelow (S := none_) hb6).owns hW5 (fun _ _ => id)
        have hMM : ∀ y ∈ gs, w6.ownsRow w0.heap.size 5 1 (mk1 y) 1 [.int .u8 207] := fun y hy => (Ch.ofBelow (S := none_) hb6).owns (hM5 y hy) (fun _ _ => id)
        have HSM : Hid _ := same_eq' wa wa6 G c c6 (ground ps) w6 HG.out.symm (owns_seg_at hWW) (owns_seg_at hW6) (ground_256 ps hp256)
        have hlW := hW.lt
        have hne : (er != er) = false := by simp
        clear hL5 hW5 hM5 k55 hW6 hAP hb6
        go_wp2_with (first | (go_at_call 9; refine (num_any _ _).mono ?_; rintro e w' ⟨rfl, rfl⟩))
        refine Calls.mono HSM.out ?_
        rintro e w7 ⟨rfl, rfl⟩
        clear HSM
        go_wp2
        go_loop [19] (fun ix => ∃ i : Nat, i ≤ 20 ∧ ix = .int .i64 ((N + i : Nat) : Int)) (fun ix => N + 20 - (intOf ix).toNat)
        case atStart => exact ⟨0, by omega, rfl⟩
        case round =>
          obtain ⟨i, hi20, rfl⟩ := hrel
          by_cases hil : i < 20
          · have hgi : i < gs.length := by rw [HK.out]; exact hil
            have hcL : w6.cell? ⟨gL, N + i, none⟩ = some (.slice (some ⟨gs[i], 0, none⟩) 1 1) := by
              rw [hLL.cellAt (N + i) (by omega), List.getElem?_append_right (by rw [HCN.out]; omega), HCN.out, Nat.add_sub_cancel_left, List.getElem?_map, List.getElem?_eq_getElem hgi]
              rfl
            have hcM : w6.cell? ⟨gs[i], 0, none⟩ = some (.int .u8 207) := by
              have := (hMM gs[i] (List.getElem_mem hgi)).cellAt 0 (by omega)
              rw [this]; rfl
            obtain ⟨gg, hgg⟩ : ∃ gg, gg = gs[i] := ⟨_, rfl⟩
            rw [← hgg] at hcL hcM
            clear hgg hgi
            go_wp2
            go_round
            case rel => exact ⟨i + 1, by omega, by go_num⟩
            case measure => simp [intOf]; omega
          · obtain rfl : i = 20 := by omega
            clear hLL hMM hM hL hil
            go_wp2
            go_loopw [20] (fun ix wq => ∃ (j : Nat) (xs : List Value), j ≤ G ∧ ix = .int .i64 j ∧ wq.ownsRow w0.heap.size 5 1 (.slice wa G c) G xs ∧ Ch (fun y => (Value.slice wa G c).ownBlock = some y) w6 wq) (fun ix _ => G - (intOf ix).toNat)
            case atStart => exact ⟨0, _, Nat.zero_le _, rfl, hWW, Ch.refl _ _⟩
            case round =>
              obtain ⟨j, xs, hj, rfl, hown, hch⟩ := hrel
              by_cases hjl : j < G
              · obtain ⟨gw, cw, ew, _, _⟩ := own_block hown (by omega)
                simp only [Value.slice.injEq, true_and] at ew
                obtain ⟨rfl, rfl⟩ := ew
                have hc : ∃ z, wr.cell? ⟨gw, j, none⟩ = some z := by
                  have hxl := hown.1
                  have := hown.cellAt j (by omega)
                  rw [List.getElem?_eq_getElem (by omega)] at this
                  exact ⟨_, this⟩
                obtain ⟨z, hz⟩ := hc
                have hfz := hown.frozenAt j
                obtain ⟨hst, _⟩ := hown.stored j (.int .u8 99)
                have hch2 := hch.set ⟨gw, j, none⟩ (.int .u8 99) rfl
                clear hWW hW hlW
                go_wp2
                go_roundw
                case rel => exact ⟨j + 1, _, by omega, by go_num, hst, hch2⟩
                case measure => simp [intOf]; omega
              · obtain rfl : j = G := by omega
                go_wp2
                go_ret
                exact ⟨rfl, AfterP.fin h (hbx.trans (hbel.mono hbx.size)) hAP6 hch (fun y hy => by have := hlW y hy; omega)⟩
end Go.Proofs.Ytcgfdhmegagjdaa
