/-
  Layer 18: the document's own answer: Pop, Peek.
-/
import Derived.Test.YtcdbhkihbfjedaaQR3
namespace Go.Proofs.Ytcdbhkihbfjedaa
open Go.RowKit

theorem results_rqv4 {fn : Func} {p a b c : Tmp} (h : fn.results = #[.cell p 67, .tmp a, .tmp b, .tmp c]) (tmps : Array Value) (w : World) (O : Nat) (x : RQ) (hp : tmps.getD p undef = .pointer (some ⟨O, 0, none⟩)) (hb : RqvAt w O x) :
    (results fn tmps).run Try.prog w = .ok (.tuple #[.agg (rqA x), tmps.getD a undef, tmps.getD b undef, tmps.getD c undef]) w := by
  have hp' : tmps[p]?.getD undef = .pointer (some ⟨O, 0, none⟩) := by simpa using hp
  simp [results, h, hp', asAddr, run_loadVar_row w O _ 67 (rqA x) _ _ hb Try.underlying67 rfl Try.size_rqv]
theorem results_rqv2 {fn : Func} {p a : Tmp} (h : fn.results = #[.cell p 67, .tmp a]) (tmps : Array Value) (w : World) (O : Nat) (x : RQ) (hp : tmps.getD p undef = .pointer (some ⟨O, 0, none⟩)) (hb : RqvAt w O x) :
    (results fn tmps).run Try.prog w = .ok (.tuple #[.agg (rqA x), tmps.getD a undef]) w := by
  have hp' : tmps[p]?.getD undef = .pointer (some ⟨O, 0, none⟩) := by simpa using hp
  simp [results, h, hp', asAddr, run_loadVar_row w O _ 67 (rqA x) _ _ hb Try.underlying67 rfl Try.size_rqv]
def mzR (cs : List CL) (k B : Nat) (w : World) : Nat := match w.cell? ⟨B, 0, none⟩, w.cell? ⟨B, 1, none⟩, w.cell? ⟨B, 2, none⟩ with
  | some (.slice (some x) _ _), some (.int _ a), some (.bool g) => (match w.cell? ⟨x.block, x.off + k * 8 + 6, none⟩ with
    | some (.int _ d) => mzT cs.length k (hdS (cAt cs k).L) a.toNat g d
    | _ => 0)
  | _, _, _ => 0
theorem mzR_eq {cs : List CL} {k B : Nat} {w : World} {v : RQ} {rs : List RL} {u : TN} (h : RqvAt w B v) (hs : RS w v rs) (hT : RT rs v u) (hk : k < rs.length) : mzR cs k B w = mz cs k u := by
  obtain ⟨r, hr⟩ : ∃ r, rs[k]? = some r := ⟨_, List.getElem?_eq_getElem hk⟩
  obtain ⟨b, off, hla, hrg⟩ := hs.line hr
  unfold mzR mz
  have h0 : w.cell? ⟨B, 0, none⟩ = some (.slice (some ⟨b, off, none⟩) v.n v.lc) := (h.cell 0).trans (by rw [← hla]; rfl)
  have h1 : w.cell? ⟨B, 1, none⟩ = some (.int .i64 (v.at' : Int)) := h.cell 1
  have h2 : w.cell? ⟨B, 2, none⟩ = some (.bool v.gv) := h.cell 2
  have h3 : w.cell? ⟨b, off + k * 8 + 6, none⟩ = some (.int .i64 r.de) := hrg 6 _ rfl
  rw [h0, h1, h2]
  simp only [h3, Int.toNat_natCast, hT.1, hT.2.1, hT.2.2 k r hr]
theorem RIt.tail {w : World} {g off : Nat} {x : Int × Int} {L : List (Int × Int)} (h : LK 2 riL 124 w (some ⟨g, off, none⟩) (x :: L)) : LK 2 riL 124 w (some ⟨g, off + 2, none⟩) L := by
  refine ⟨?_, fun _ y hy => by cases hy; exact h.kd (by simp) ⟨g, off, none⟩ rfl⟩
  rcases h.li with h0 | ⟨b, o, hb, hlt, hc⟩
  · cases h0
  · cases hb
    refine .inr ⟨g, off + 2, rfl, hlt, fun i z hz => ⟨trivial, fun j hj => ?_⟩⟩
    rw [show off + 2 + i * 2 + j = off + (i + 1) * 2 + j by omega]
    exact (hc (i + 1) z (by simpa using hz)).2 j hj
theorem gr_rt {rs : List RL} {v : RQ} {u : TN} {a : Nat} {r r2 : RL} {cs : List CL} (h : RT rs v u) (ha : u.at' = a) (hi : rs[a]? = some r) (hc : cAt cs a = r.c) (hr : r.c.rdy = true) (hd : r2.de = (gr cs u).de a) {v2 : RQ} (h1 : v2.at' = v.at') (h2 : v2.gv = true) : RT (rs.set a r2) v2 (gr cs u) := by
  refine ⟨by rw [h1, gr_at]; exact h.1, ?_, fun j y hy => ?_⟩
  · rw [h2]
    unfold gr
    rw [ha, hc, hr]
    cases hg : u.gv <;> simp [hg]
  · by_cases e : j = a
    · subst e
      rw [List.getElem?_set_self (List.getElem?_eq_some_iff.1 hi).1] at hy
      cases hy
      exact hd
    · rw [List.getElem?_set_ne (fun x => e x.symm)] at hy
      have h3 := h.2.2 j y hy
      unfold gr
      split
      · show y.de = up _ _ _ j
        rw [ha, up_ne e]; exact h3
      · exact h3
theorem set_self {α : Type} {l : List α} {i : Nat} {x : α} (h : l[i]? = some x) : l.set i x = l := List.ext_getElem? (fun j => by
  by_cases e : j = i
  · subst e; rw [List.getElem?_set_self (List.getElem?_eq_some_iff.1 h).1]; exact h.symm
  · rw [List.getElem?_set_ne (fun x => e x.symm)])
theorem RqvAt.all {w : World} {O : Nat} {x : RQ} (h : RqvAt w O x) : w.rangeAt O 0 (rqA x).toList := by
  have e := RqvAt.range h 0 (rqA x).size
  rwa [Nat.zero_add, Array.extract_size] at e
theorem pop_rt {rs : List RL} {v : RQ} {u : TN} {a : Nat} {r2 rx : RL} {d : Int} (h : RT (rs.set a r2) v u) (hi : a < rs.length) (hd : rx.de = d) {v5 : RQ} (h1 : v5.at' = v.at') (h2 : v5.gv = v.gv) : RT (rs.set a rx) v5 ⟨u.at', u.gv, up u.de a d⟩ := by
  have h3 := h.put (i := a) (r := r2) (by rw [List.getElem?_set_self hi]) hd
  rw [List.set_set] at h3
  exact ⟨h1.trans h3.1, h2.trans h3.2.1, h3.2.2⟩
/-- a line in a box beside the queue's -/
structure LB (w wr : World) (B1 B2 B3 : Nat) (v : RQ) (r : RL) (y : World) : Prop where
  l : RlvAt y B3 r
  q : RqvAt y B1 v
  z : RqvAt y B2 qz
  b : Below w.heap.size w y
  k : Ch (fun q => q = B1) wr y
theorem LB.set {w wr : World} {B1 B2 B3 : Nat} {v : RQ} {r r' : RL} {y : World} (h : LB w wr B1 B2 B3 v r y) (hB : w.heap.size ≤ B1 ∧ B1 < B2 ∧ B2 < B3 ∧ wr.heap.size ≤ B3) (i : Nat) (u : Value) (he : (rlA r).setIfInBounds i u = rlA r') : LB w wr B1 B2 B3 v r' (y.setCell ⟨B3, i, none⟩ u) := by
  have kk : Ch (fun q => q = B3) y (y.setCell ⟨B3, i, none⟩ u) := (Ch.refl (fun q => q = B3) y).set ⟨B3, i, none⟩ _ rfl
  exact ⟨h.l.set i u he, h.q.ch kk (by omega), h.z.ch kk (by omega), h.b.trans (kk.below (fun q hq => by omega) h.b.size), h.k.trans kk (fun q hq e => by omega)⟩
theorem LB.below {w wr : World} {B1 B2 B3 : Nat} {v : RQ} {r : RL} {y y' : World} (h : LB w wr B1 B2 B3 v r y) (b : Below y.heap.size y y') : LB w wr B1 B2 B3 v r y' := ⟨h.l.below b, h.q.below b, h.z.below b, h.b.trans (b.mono h.b.size), h.k.trans (Ch.ofBelow (S := fun _ => False) b) (fun _ _ e => e.elim)⟩
theorem RIt.head2 {w : World} {r : RL} {x : Int × Int} {L : List (Int × Int)} {g off : Nat} (h : RIt w r) (hL : r.c.L = x :: L) (hla : r.la = some ⟨g, off, none⟩) : w.cell? ⟨g, off, none⟩ = some (.int .i64 x.2) ∧ w.cell? ⟨g, off + 1, none⟩ = some (.int .i64 x.1) := by
  obtain ⟨b, o, h1, h2, h3⟩ := h.head hL
  rw [hla] at h1
  cases h1
  exact ⟨h2, h3⟩
set_option maxHeartbeats 6400000 in
set_option maxRecDepth 100000 in
theorem popR_any (v : RQ) (rs : List RL) (cs : List CL) (t : TN) (w : World) (h : RS w v rs) (hcs : csR rs = cs) (hT : RT rs v t) (hok : QOk cs t) : Calls Try.prog 53 #[.agg (rqA v)] w fun e w' => ∃ v' rs', e = .returned (.tuple #[.agg (rqA v'), .int .i64 (popN cs t), .int .i64 (popC cs t), .bool (anyR cs)]) ∧ RS w' v' rs' ∧ csR rs' = popQ cs t ∧ RT rs' v' (popT cs t) ∧ Below w.heap.size w w' := by
  have HH : Hid (RS w v rs ∧ csR rs = cs ∧ RT rs v t ∧ QOk cs t) := ⟨h, hcs, hT, hok⟩
  obtain ⟨ab, hab⟩ : ∃ ab, anyR cs = ab := ⟨_, rfl⟩
  have HAN : Hid (anyR cs = ab) := hab
  clear h hcs hT hok hab
  go_enter Try.func53, Try.ntmps53
  go_upto_region 1 with (first | (refine wpList_box_rqv (.tmp 0) rfl v rfl rfl ?_; intro B1 W1 hB1 hA1 b1) | (refine wpList_nil_rqv rfl rfl ?_; intro B2 W2 hB2 hA2 b2))
  have H2 : Hid (RqvAt W2 B1 v ∧ RqvAt W2 B2 qz ∧ Below w.heap.size w W2 ∧ w.heap.size = B1 ∧ B2 = B1 + 1 ∧ W2.heap.size = B2 + 1 ∧ RS W2 v rs) := ⟨hA1.below b2, hA2, bthen b1 b2, hB1.out.1, by have g1 := hB1.out; have g2 := hB2.out; omega, hB2.out.2, (HH.out.1.below b1).below b2⟩
  have HO : Hid (w.heap.size = B1 ∧ B2 = B1 + 1 ∧ B2 < W2.heap.size) := ⟨H2.out.2.2.2.1, H2.out.2.2.2.2.1, by have g1 := H2.out; omega⟩
  clear hB1 hA1 b1 hB2 hA2 b2
  have QS : Hid _ := some_any v rs W2 H2.out.2.2.2.2.2.2
  rw [HH.out.2.1, HAN.out] at QS
  go_wp2_with (first | (refine wpList_load_rqv (.tmp 1) rfl B1 v rfl H2.out.1 rfl ?_))
  refine Calls.mono QS.out ?_
  rintro e1 w1 ⟨rfl, b1⟩
  have H1 : Hid (RqvAt w1 B1 v ∧ RqvAt w1 B2 qz ∧ Below w.heap.size w w1 ∧ RS w1 v rs) := ⟨H2.out.1.below b1, H2.out.2.1.below b1, bthen H2.out.2.2.1 b1, H2.out.2.2.2.2.2.2.below b1⟩
  clear b1 QS H2
  cases ab with
  | false =>
    have HNO : Hid (popN cs t = 0 ∧ popC cs t = 0 ∧ popT cs t = t ∧ popQ cs t = cs) := by
      unfold popN popC popT popQ
      rw [HAN.out]
      exact ⟨rfl, rfl, rfl, rfl⟩
    go_wp2_with (first | (refine wpList_load_rqv (.tmp 1) rfl B1 v rfl H1.out.1 rfl ?_) | (refine wpList_store_rqv (.tmp 2) (.tmp 14) rfl rfl B2 qz v rfl rfl H1.out.2.1 rfl ?_))
    intro w3 h3 k3
    have H3 : Hid (RqvAt w3 B2 v ∧ RS w3 v rs ∧ Below w.heap.size w w3) := ⟨h3, H1.out.2.2.2.chq k3 H1.out.2.1, H1.out.2.2.1.trans (k3.below (fun q hq => by have := HO.out; omega) H1.out.2.2.1.size)⟩
    clear h3 k3
    go_wp2_with fail
    refine bodyPost_ret (results_rqv4 rfl _ _ B2 _ rfl H3.out.1) rfl ?_
    exact ⟨v, rs, by rw [HNO.out.1, HNO.out.2.1, HAN.out]; rfl, H3.out.2.1, by rw [HNO.out.2.2.2]; exact HH.out.2.1, by rw [HNO.out.2.2.1]; exact HH.out.2.2.1, H3.out.2.2⟩
  | true =>
    obtain ⟨k, hk, hr⟩ := any_some HAN.out
    have HK : Hid (k < cs.length ∧ (cAt cs k).rdy = true) := ⟨hk, hr⟩
    clear hk hr
    go_wp2_with fail
    go_loopw [] (fun wr => ∃ (v1 : RQ) (rs1 : List RL) (u : TN), Hid (RqvAt wr B1 v1 ∧ RqvAt wr B2 qz ∧ RS wr v1 rs1 ∧ csR rs1 = cs ∧ RT rs1 v1 u ∧ QOk cs u ∧ (∀ z, Run cs u z → Run cs t z) ∧ Below w.heap.size w wr)) (fun wr => mzR cs k B1 wr)
    case atStart => exact ⟨v, rs, t, H1.out.1, H1.out.2.1, H1.out.2.2.2, HH.out.2.1, HH.out.2.2.1, HH.out.2.2.2, fun _ h => h, H1.out.2.2.1⟩
    case round =>
      obtain ⟨v1, rs1, u, HI⟩ := hrel
      obtain ⟨n, hn⟩ : ∃ n, v1.n = n := ⟨_, rfl⟩
      obtain ⟨a, ha⟩ : ∃ a, u.at' = a := ⟨_, rfl⟩
      have hal : a < rs1.length := by rw [← csR_len, HI.out.2.2.2.1, ← ha]; exact HI.out.2.2.2.2.2.1.tn.at'
      have hnl : n = rs1.length := by rw [← hn]; exact HI.out.2.2.1.n
      have hn8 : n ≤ 8 := by have := HI.out.2.2.1.len; omega
      obtain ⟨r, hr⟩ : ∃ r, rs1[a]? = some r := ⟨_, List.getElem?_eq_getElem hal⟩
      have HUAE : Hid (u.at' = a) := ha
      have HRR : Hid (rs1[a]? = some r) := hr
      have HCA : Hid (cAt cs a = r.c) := by show _ = _; rw [← HI.out.2.2.2.1]; exact csR_at hr
      have HUA : Hid (u.at' < cs.length) := HI.out.2.2.2.2.2.1.tn.at'
      have HV1 : Hid (v1.n = n ∧ v1.at' = a ∧ r.de = u.de a) := ⟨hn, HI.out.2.2.2.2.1.1.trans ha, HI.out.2.2.2.2.1.2.2 a r hr⟩
      have k0 : (0 : Int) ≤ (a : Int) := by omega
      have k1 : (a : Int) < (n : Int) := by omega
      have k2 : ((a : Int)).toNat = a := by omega
      obtain ⟨g, off, hla, hrg⟩ := HI.out.2.2.1.line hr
      have HRG : Hid (wr.rangeAt g (off + a * 8) (rlA r).toList) := hrg
      have c0 : wr.cell? ⟨B1, 0, none⟩ = some (.slice (some ⟨g, off, none⟩) n v1.lc) := (HI.out.1.cell 0).trans (by rw [← hla, ← hn]; rfl)
      have c1 : wr.cell? ⟨B1, 1, none⟩ = some (.int .i64 (a : Int)) := (HI.out.1.cell 1).trans (by rw [← HV1.out.2.1]; rfl)
      clear hla hrg hn ha hal hnl hr
      go_wp2_with (first | (refine wpList_mid_rlv (.tmp 19) rfl g (off + a * 8) r rfl HRG.out rfl ?_) | (refine wpList_nil_rlv rfl rfl ?_; intro B3 X hB3 hX bX) | (refine wpList_store_rlv (.tmp 7) (.tmp 20) rfl rfl B3 rz r rfl rfl hX rfl ?_))
      intro x3 h3 k3
      have HOL : Hid (w.heap.size ≤ B1 ∧ B1 < B2 ∧ B2 < B3 ∧ wr.heap.size ≤ B3) := by have g1 := hB3.out; have g2 := HO.out; have g3 := HI.out.2.1.lt; exact ⟨by omega, by omega, by omega, by omega⟩
      have HP : Hid (LB w wr B1 B2 B3 v1 r x3) := by
        have hg := HOL.out
        exact ⟨h3, (HI.out.1.below bX).ch k3 (by omega), (HI.out.2.1.below bX).ch k3 (by omega), (HI.out.2.2.2.2.2.2.2.trans (bX.mono HI.out.2.2.2.2.2.2.2.size)).trans (k3.below (fun q hq => by omega) (Nat.le_trans HI.out.2.2.2.2.2.2.2.size bX.size)), (Ch.ofBelow bX).trans k3 (fun q hq e => by omega)⟩
      clear hB3 hX bX h3 k3 c0 c1 HRG
      have QR : Hid _ := readyR_any r x3 ((HI.out.2.2.1.chq HP.out.k HI.out.1).it r (List.mem_of_getElem? HRR.out))
      obtain ⟨rb, hrb⟩ : ∃ rb, r.c.rdy = rb := ⟨_, rfl⟩
      have HRDY : Hid (r.c.rdy = rb) := hrb
      rw [hrb] at QR
      clear hrb
      go_upto_region 5 with fail
      go_wp2_with (first | (refine wpList_load_rlv (.tmp 7) rfl B3 r rfl HP.out.l rfl ?_))
      refine Calls.mono QR.out ?_
      rintro e4 x4 ⟨rfl, b4⟩
      have HQ : Hid (LB w wr B1 B2 B3 v1 r x4) := HP.out.below b4
      clear HP b4 QR
      rename Hid (LB w wr B1 B2 B3 v1 r x4) => HP
      cases rb with
      | false =>
        have HGU : Hid (gr cs u = u) := by show _ = _; unfold gr; rw [HUAE.out, HCA.out, HRDY.out]; rfl
        have HSF : Hid (srv cs u = false) := by show _ = _; unfold srv; rw [HUAE.out, HCA.out, HRDY.out]; rfl
        have HNO : Hid (QOk cs (nxt cs u)) := HI.out.2.2.2.2.2.1.nxt HSF.out
        have HMZ : Hid (mz cs k (nxt cs u) < mz cs k u) := mz_nxt HI.out.2.2.2.2.2.1 HK.out.1 HK.out.2 HSF.out
        have HNX : Hid (nxt cs u = ⟨(u.at' + 1) % cs.length, false, (lvT cs u).de⟩) := by show _ = _; unfold nxt; rw [HGU.out]
        have HX6 : Hid (RqvAt x4 B1 v1 ∧ RqvAt x4 B2 qz ∧ RS x4 v1 rs1 ∧ Below w.heap.size w x4 ∧ csR rs1 = cs ∧ RT rs1 v1 u) := ⟨HP.out.q, HP.out.z, HI.out.2.2.1.chq HP.out.k HI.out.1, HP.out.b, HI.out.2.2.2.1, HI.out.2.2.2.2.1⟩
        go_upto_region 7 with fail
        have QN : Hid _ := onward_any v1 rs1 u x4 HX6.out.2.2.1 HX6.out.2.2.2.2.2 (by rw [← csR_len, HX6.out.2.2.2.2.1]; exact HUA.out)
        go_wp2_with (first | (refine wpList_load_rqv (.tmp 1) rfl B1 v1 rfl HX6.out.1 rfl ?_))
        refine Calls.mono QN.out ?_
        rintro eo yo ⟨v4, rs4, rfl, s4, c4, t4, b4⟩
        have HY : Hid (RS yo v4 rs4 ∧ csR rs4 = cs ∧ RT rs4 v4 (nxt cs u) ∧ RqvAt yo B1 v1 ∧ RqvAt yo B2 qz ∧ Below w.heap.size w yo) := ⟨s4, c4.trans HX6.out.2.2.2.2.1, by rw [HX6.out.2.2.2.2.1, ← csR_len, HX6.out.2.2.2.2.1] at t4; rw [HNX.out]; exact t4, HX6.out.1.below b4, HX6.out.2.1.below b4, HX6.out.2.2.2.1.trans (b4.mono HX6.out.2.2.2.1.size)⟩
        clear s4 c4 t4 b4 QN
        go_wp2_with (first | (refine wpList_store_rqv (.tmp 1) (.tmp 26) rfl rfl B1 v1 v4 rfl rfl HY.out.2.2.2.1 rfl ?_))
        intro yn hn kn
        have HN : Hid (RqvAt yn B1 v4 ∧ RqvAt yn B2 qz ∧ RS yn v4 rs4 ∧ csR rs4 = cs ∧ RT rs4 v4 (nxt cs u) ∧ Below w.heap.size w yn) := ⟨hn, HY.out.2.2.2.2.1.ch kn (by have := HO.out; omega), HY.out.1.chq kn HY.out.2.2.2.1, HY.out.2.1, HY.out.2.2.1, HY.out.2.2.2.2.2.trans (kn.below (fun q hq => by have := HO.out; omega) HY.out.2.2.2.2.2.size)⟩
        clear hn kn HY
        go_wp2_with fail
        go_roundw
        case rel => exact ⟨v4, rs4, nxt cs u, HN.out.1, HN.out.2.1, HN.out.2.2.1, HN.out.2.2.2.1, HN.out.2.2.2.2.1, HNO.out, fun z hz => HI.out.2.2.2.2.2.2.1 z (.step u z HSF.out hz), HN.out.2.2.2.2.2⟩
        case measure => rw [mzR_eq HN.out.1 HN.out.2.2.1 HN.out.2.2.2.2.1 (by rw [← csR_len, HN.out.2.2.2.1]; exact HK.out.1), mzR_eq HI.out.1 HI.out.2.2.1 HI.out.2.2.2.2.1 (by rw [← csR_len, HI.out.2.2.2.1]; exact HK.out.1)]; exact HMZ.out
      | true =>
        obtain ⟨x, L, hL⟩ := rdy_hd HRDY.out
        have HL : Hid (r.c.L = x :: L) := hL
        have HHD : Hid (hdS r.c.L = x.2) := held_at hL
        have HCL : Hid (ClOk r.c) := by have h1 := HI.out.2.2.2.2.2.1.c HUA.out; rw [HUAE.out, HCA.out] at h1; exact h1
        have HX2 : Hid (1 ≤ x.2 ∧ x.2 ≤ 65535) := HCL.out.el x (by rw [hL]; exact List.mem_cons_self)
        obtain ⟨m, hm⟩ : ∃ m, r.c.L.length = m := ⟨_, rfl⟩
        obtain ⟨ml, hml⟩ : ∃ ml, ml = L.length := ⟨_, rfl⟩
        have HM : Hid (r.c.L.length = m) := hm
        have HML : Hid (ml = L.length) := hml
        have HMM : Hid (m = ml + 1) := by show _ = _; rw [← hm, hL, hml]; rfl
        have hm1 : m - 1 = ml := by have := HMM.out; omega
        have m1 : 1 ≤ m := by have := HMM.out; omega
        have m2 : (0 : Int) < (m : Int) := by omega
        have m3 : (1 : Int) ≤ (m : Int) := by omega
        have hit := HI.out.2.2.1.it r (List.mem_of_getElem? HRR.out)
        have HCAP : Hid (m ≤ r.lc ∧ r.lc ≤ maxLen) := by rw [← hm]; exact hit.2
        have l1 : 1 ≤ r.lc := by have := HCAP.out; omega
        obtain ⟨g2, off2, hla2, _, _⟩ := hit.head hL
        have HLA : Hid (r.la = some ⟨g2, off2, none⟩) := hla2
        obtain ⟨d, hd⟩ : ∃ d, d = (gr cs u).de a := ⟨_, rfl⟩
        have HD : Hid (d = (gr cs u).de a) := hd
        have h8 : a < 8 := by have h1 := HUA.out; have h2 := HI.out.2.2.2.2.2.1.len.2; rw [HUAE.out] at h1; omega
        have HDB : Hid (0 ≤ d ∧ d ≤ 131070) := by have h1 := gr_ok HI.out.2.2.2.2.2.1; rw [hd]; exact ⟨h1.lo a h8, h1.up a h8⟩
        obtain ⟨v2, hv2⟩ : ∃ v2 : RQ, v2 = ⟨v1.la, v1.n, v1.lc, v1.at', true⟩ := ⟨_, rfl⟩
        have HV2 : Hid (v2 = ⟨v1.la, v1.n, v1.lc, v1.at', true⟩) := hv2
        have HV2A : Hid (v2.at' = a) := by show _ = _; rw [hv2]; exact HV1.out.2.1
        obtain ⟨gg, hgg⟩ : ∃ gg, u.gv = gg := ⟨_, rfl⟩
        have HGG : Hid (u.gv = gg) := hgg
        have c2 : x4.cell? ⟨B1, 2, none⟩ = some (.bool gg) := (HP.out.q.cell 2).trans (by rw [← hgg, ← HI.out.2.2.2.2.1.2.1]; rfl)
        clear hL hm hml hit hla2 hd hv2 hgg h8
        cases gg with
        | false =>
          have HDV : Hid (d = r.de + r.c.li.q) := by
            show _ = _
            rw [HD.out, HV1.out.2.2]
            unfold gr
            rw [HUAE.out, HCA.out, HRDY.out, HGG.out]
            exact up_same _ _ _
          have wdq : IntKind.i64.wrap (r.de + r.c.li.q) = d := by rw [← HDV.out]; have := HDB.out; exact i64_s _ (by omega) (by omega)
          have c6 : x4.cell? ⟨B3, 6, none⟩ = some (.int .i64 r.de) := HP.out.l.cell 6
          have cq : x4.cell? ⟨B3, 0, none⟩ = some (.int .i64 r.c.li.q) := HP.out.l.cell 0
          have z6 := HP.out.l.fz 6
          have HQ : Hid (LB w wr B1 B2 B3 v1 ⟨r.c, d, r.la, r.lc⟩ (x4.setCell ⟨B3, 6, none⟩ (.int .i64 d))) := HP.out.set HOL.out 6 _ rfl
          obtain ⟨x5, hx5⟩ : ∃ y, x4.setCell ⟨B3, 6, none⟩ (.int .i64 d) = y := ⟨_, rfl⟩
          rw [hx5] at HQ
          have HW5 : Hid (x4.setCell ⟨B3, 6, none⟩ (.int .i64 d) = x5) := hx5
          clear hx5
          have d2 : x5.cell? ⟨B1, 2, none⟩ = some (.bool false) := (HQ.out.q.cell 2).trans (by rw [← HGG.out, ← HI.out.2.2.2.2.1.2.1]; rfl)
          have z2 := HQ.out.q.fz 2
          obtain ⟨x6, hx6⟩ : ∃ y, x5.setCell ⟨B1, 2, none⟩ (.bool true) = y := ⟨_, rfl⟩
          have HW6 : Hid (x5.setCell ⟨B1, 2, none⟩ (.bool true) = x6) := hx6
          have HR : Hid (LB w wr B1 B2 B3 v2 ⟨r.c, d, r.la, r.lc⟩ x6) := by
            have kk : Ch (fun q => q = B1) x5 x6 := by rw [← hx6]; exact (Ch.refl (fun q => q = B1) x5).set ⟨B1, 2, none⟩ _ rfl
            have hg := HOL.out
            exact ⟨HQ.out.l.ch kk (by omega), by rw [← hx6, HV2.out]; exact HQ.out.q.set 2 _ rfl, HQ.out.z.ch kk (by omega), HQ.out.b.trans (kk.below (fun q hq => by omega) HQ.out.b.size), HQ.out.k.trans kk (fun _ _ e => e)⟩
          clear hx6 HP
          go_upto_region 10 with fail
          rw [HW5.out]
          clear c2 c6 cq z6
          go_upto_region 11 with fail
          rw [HW6.out]
          clear d2 z2 HQ
          rename Hid (LB w wr B1 B2 B3 v2 ⟨r.c, d, r.la, r.lc⟩ x6) => HP
          have HGRT : Hid (RT (rs1.set a ⟨r.c, d, r.la, r.lc⟩) v2 (gr cs u)) := gr_rt HI.out.2.2.2.2.1 HUAE.out HRR.out HCA.out HRDY.out HD.out (by rw [HV2.out]) (by rw [HV2.out])
          have c5 : x6.cell? ⟨B3, 5, none⟩ = some (.slice (some ⟨g2, off2, none⟩) m r.lc) := (HP.out.l.cell 5).trans (by rw [← HM.out, ← HLA.out]; rfl)
          have ci := (((HI.out.2.2.1.chq HP.out.k HI.out.1).it r (List.mem_of_getElem? HRR.out)).head2 HL.out HLA.out)
          have ci0 := ci.1
          have ci1 := ci.2
          have c6 : x6.cell? ⟨B3, 6, none⟩ = some (.int .i64 d) := HP.out.l.cell 6
          clear ci
          by_cases hsd : d < x.2
          · have qsd : decide (d < x.2) = true := decide_eq_true hsd
            have HSF : Hid (srv cs u = false) := by show _ = _; unfold srv; rw [HUAE.out, HCA.out, HRDY.out, HHD.out, ← HD.out, Bool.true_and]; exact decide_eq_false (by omega)
            have HNO : Hid (QOk cs (nxt cs u)) := HI.out.2.2.2.2.2.1.nxt HSF.out
            have HMZ : Hid (mz cs k (nxt cs u) < mz cs k u) := mz_nxt HI.out.2.2.2.2.2.1 HK.out.1 HK.out.2 HSF.out
            clear hsd
            go_upto_region 14 with fail
            clear c5 ci0 ci1 c6
            have c1 : x6.cell? ⟨B1, 1, none⟩ = some (.int .i64 (a : Int)) := (HP.out.q.cell 1).trans (by rw [← HV2A.out]; rfl)
            have HSL : Hid (RS x6 v2 rs1) := (HI.out.2.2.1.chq HP.out.k HI.out.1).turn (by rw [HV2.out]) (by rw [HV2.out]) (by rw [HV2.out])
            have QP : Hid _ := put_any v2 rs1 a ⟨r.c, d, r.la, r.lc⟩ x6 HSL.out (List.getElem?_eq_some_iff.1 HRR.out).1 (HSL.out.it r (List.mem_of_getElem? HRR.out))
            go_wp2_with (first | (refine wpList_load_rqv (.tmp 1) rfl B1 v2 rfl HP.out.q rfl ?_) | (refine wpList_load_rlv (.tmp 7) rfl B3 ⟨r.c, d, r.la, r.lc⟩ rfl HP.out.l rfl ?_))
            refine Calls.mono QP.out ?_
            rintro ep yp ⟨la, lc, rfl, s5, b5⟩
            obtain ⟨v5, hv5⟩ : ∃ v5 : RQ, v5 = ⟨la, v2.n, lc, v2.at', v2.gv⟩ := ⟨_, rfl⟩
            have HP5 : Hid (RS yp v5 (rs1.set a ⟨r.c, d, r.la, r.lc⟩) ∧ RqvAt yp B1 v2 ∧ RqvAt yp B2 qz ∧ Below w.heap.size w yp ∧ v5.at' = v2.at' ∧ v5.gv = v2.gv) := by rw [hv5]; exact ⟨s5, HP.out.q.below b5, HP.out.z.below b5, HP.out.b.trans (b5.mono HP.out.b.size), rfl, rfl⟩
            rw [← hv5]
            clear s5 b5 hv5 QP c1
            go_wp2_with (first | (refine wpList_store_rqv (.tmp 1) (.tmp 56) rfl rfl B1 v2 v5 rfl rfl HP5.out.2.1 rfl ?_))
            intro y6 h6 k6
            have HX6 : Hid (RqvAt y6 B1 v5 ∧ RqvAt y6 B2 qz ∧ RS y6 v5 (rs1.set a ⟨r.c, d, r.la, r.lc⟩) ∧ Below w.heap.size w y6 ∧ csR (rs1.set a ⟨r.c, d, r.la, r.lc⟩) = cs ∧ RT (rs1.set a ⟨r.c, d, r.la, r.lc⟩) v5 (gr cs u)) := ⟨h6, HP5.out.2.2.1.ch k6 (by have := HO.out; omega), HP5.out.1.chq k6 HP5.out.2.1, HP5.out.2.2.2.1.trans (k6.below (fun q hq => by have := HO.out; omega) HP5.out.2.2.2.1.size), by rw [csR_set, HI.out.2.2.2.1]; exact set_self (by have h1 := HI.out.2.2.2.1; rw [← h1]; unfold csR; rw [List.getElem?_map, HRR.out]; rfl), ⟨HP5.out.2.2.2.2.1.trans HGRT.out.1, HP5.out.2.2.2.2.2.trans HGRT.out.2.1, HGRT.out.2.2⟩⟩
            clear h6 k6 HP5
            have HNX : Hid (nxt cs u = ⟨((gr cs u).at' + 1) % cs.length, false, (lvT cs (gr cs u)).de⟩) := by show _ = _; unfold nxt; rw [gr_at]
            go_upto_region 15 with fail
            have QN : Hid _ := onward_any v5 (rs1.set a ⟨r.c, d, r.la, r.lc⟩) (gr cs u) y6 HX6.out.2.2.1 HX6.out.2.2.2.2.2 (by rw [← csR_len, HX6.out.2.2.2.2.1]; rw [gr_at]; exact HUA.out)
            go_wp2_with (first | (refine wpList_load_rqv (.tmp 1) rfl B1 v5 rfl HX6.out.1 rfl ?_))
            refine Calls.mono QN.out ?_
            rintro eo yo ⟨v4, rs4, rfl, s4, c4, t4, b4⟩
            have HY : Hid (RS yo v4 rs4 ∧ csR rs4 = cs ∧ RT rs4 v4 (nxt cs u) ∧ RqvAt yo B1 v5 ∧ RqvAt yo B2 qz ∧ Below w.heap.size w yo) := ⟨s4, c4.trans HX6.out.2.2.2.2.1, by rw [HX6.out.2.2.2.2.1, ← csR_len, HX6.out.2.2.2.2.1] at t4; rw [HNX.out]; exact t4, HX6.out.1.below b4, HX6.out.2.1.below b4, HX6.out.2.2.2.1.trans (b4.mono HX6.out.2.2.2.1.size)⟩
            clear s4 c4 t4 b4 QN
            go_wp2_with (first | (refine wpList_store_rqv (.tmp 1) (.tmp 58) rfl rfl B1 v5 v4 rfl rfl HY.out.2.2.2.1 rfl ?_))
            intro yn hn kn
            have HN : Hid (RqvAt yn B1 v4 ∧ RqvAt yn B2 qz ∧ RS yn v4 rs4 ∧ csR rs4 = cs ∧ RT rs4 v4 (nxt cs u) ∧ Below w.heap.size w yn) := ⟨hn, HY.out.2.2.2.2.1.ch kn (by have := HO.out; omega), HY.out.1.chq kn HY.out.2.2.2.1, HY.out.2.1, HY.out.2.2.1, HY.out.2.2.2.2.2.trans (kn.below (fun q hq => by have := HO.out; omega) HY.out.2.2.2.2.2.size)⟩
            clear hn kn HY
            go_wp2_with fail
            go_roundw
            case rel => exact ⟨v4, rs4, nxt cs u, HN.out.1, HN.out.2.1, HN.out.2.2.1, HN.out.2.2.2.1, HN.out.2.2.2.2.1, HNO.out, fun z hz => HI.out.2.2.2.2.2.2.1 z (.step u z HSF.out hz), HN.out.2.2.2.2.2⟩
            case measure => rw [mzR_eq HN.out.1 HN.out.2.2.1 HN.out.2.2.2.2.1 (by rw [← csR_len, HN.out.2.2.2.1]; exact HK.out.1), mzR_eq HI.out.1 HI.out.2.2.1 HI.out.2.2.2.2.1 (by rw [← csR_len, HI.out.2.2.2.1]; exact HK.out.1)]; exact HMZ.out
          · have qsd : decide (d < x.2) = false := decide_eq_false hsd
            have HSV : Hid (srv cs u = true) := by show _ = _; unfold srv; rw [HUAE.out, HCA.out, HRDY.out, HHD.out, ← HD.out, Bool.true_and]; exact decide_eq_true (by omega)
            have HRUN : Hid (Run cs t (gr cs u)) := HI.out.2.2.2.2.2.2.1 _ (.stop u HSV.out)
            have HGA : Hid ((gr cs u).at' = a) := (gr_at _ _).trans HUAE.out
            have HPD : Hid (popD cs (gr cs u) = ⟨(gr cs u).at', (gr cs u).gv, up (gr cs u).de a (if wtB L then d - x.2 else 0)⟩) := by
              show _ = _
              unfold popD
              rw [HGA.out, HCA.out, HL.out, ← HD.out]
              rfl
            have HYES : Hid (popN cs t = x.1 ∧ popC cs t = (a : Int)) := by
              unfold popN popC
              rw [HAN.out, HRUN.out.fin, HGA.out, HCA.out, HL.out]
              exact ⟨rfl, rfl⟩
            have wd2 : IntKind.i64.wrap (d - x.2) = d - x.2 := by have h1 := HDB.out; have h2 := HX2.out; exact i64_s _ (by omega) (by omega)
            clear hsd
            go_upto_region 16 with fail
            clear c5 ci0 ci1 c6
            have cca : x6.cell? ⟨B3, 6, none⟩ = some (.int .i64 d) := HP.out.l.cell 6
            have zza := HP.out.l.fz 6
            have HQ : Hid (LB w wr B1 B2 B3 v2 (⟨r.c, d - x.2, r.la, r.lc⟩) (x6.setCell ⟨B3, 6, none⟩ (.int .i64 (d - x.2)))) := HP.out.set HOL.out 6 _ rfl
            obtain ⟨ya, hya⟩ : ∃ y, x6.setCell ⟨B3, 6, none⟩ (.int .i64 (d - x.2)) = y := ⟨_, rfl⟩
            rw [hya] at HQ
            have HWa : Hid (x6.setCell ⟨B3, 6, none⟩ (.int .i64 (d - x.2)) = ya) := hya
            clear hya HP
            rename Hid (LB w wr B1 B2 B3 v2 (⟨r.c, d - x.2, r.la, r.lc⟩) ya) => HP
            go_upto_region 17 with fail
            rw [HWa.out]
            clear cca zza
            have c3 : ya.cell? ⟨B3, 3, none⟩ = some (.int .i64 r.c.li.ra) := HP.out.l.cell 3
            by_cases hra : 0 < r.c.li.ra
            · have qra : decide (0 < r.c.li.ra) = true := decide_eq_true hra
              have wtk : IntKind.i64.wrap (r.c.tk - x.2) = r.c.tk - x.2 := by have h1 := HCL.out.tk hra; have h2 := HCL.out.li.bu hra; have h3 := HX2.out; exact i64_s _ (by omega) (by omega)
              have HTK : Hid (takeC r.c = ⟨r.c.li, L, r.c.tk - x.2⟩) := by show _ = _; rw [takeC_hd HL.out, if_pos hra, HL.out]; rfl
              clear hra
              have ccb : ya.cell? ⟨B3, 7, none⟩ = some (.int .i64 r.c.tk) := HP.out.l.cell 7
              have zzb := HP.out.l.fz 7
              have HQ : Hid (LB w wr B1 B2 B3 v2 (⟨⟨r.c.li, r.c.L, r.c.tk - x.2⟩, d - x.2, r.la, r.lc⟩) (ya.setCell ⟨B3, 7, none⟩ (.int .i64 (r.c.tk - x.2)))) := HP.out.set HOL.out 7 _ rfl
              obtain ⟨yb, hyb⟩ : ∃ y, ya.setCell ⟨B3, 7, none⟩ (.int .i64 (r.c.tk - x.2)) = y := ⟨_, rfl⟩
              rw [hyb] at HQ
              have HWb : Hid (ya.setCell ⟨B3, 7, none⟩ (.int .i64 (r.c.tk - x.2)) = yb) := hyb
              clear hyb HP
              rename Hid (LB w wr B1 B2 B3 v2 (⟨⟨r.c.li, r.c.L, r.c.tk - x.2⟩, d - x.2, r.la, r.lc⟩) yb) => HP
              go_upto_region 19 with fail
              rw [HWb.out]
              clear ccb zzb c3
              by_cases hml : ml = 0
              · have qml : ((ml : Int) == 0) = true := by simp [hml]
                have HLN : Hid (L = []) := List.eq_nil_of_length_eq_zero (by rw [← HML.out]; exact hml)
                by_cases hlc : r.lc = 1
                · have HLC : Hid (r.lc = 1) := hlc
                  clear hml
                  have c5 : yb.cell? ⟨B3, 5, none⟩ = some (.slice (some ⟨g2, off2, none⟩) m r.lc) := (HP.out.l.cell 5).trans (by rw [← HM.out, ← HLA.out]; rfl)
                  have zzc := HP.out.l.fz 5
                  obtain ⟨rc, hrc⟩ : ∃ rc : RL, rc = ⟨⟨r.c.li, L, r.c.tk - x.2⟩, d - x.2, some ⟨g2, off2, none⟩, 0⟩ := ⟨_, rfl⟩
                  have HQ : Hid (LB w wr B1 B2 B3 v2 rc (yb.setCell ⟨B3, 5, none⟩ (.slice (some ⟨g2, off2, none⟩) ml 0))) := HP.out.set HOL.out 5 _ (by rw [hrc]; unfold rlA; rw [← HML.out]; rfl)
                  obtain ⟨yc, hyc⟩ : ∃ y, yb.setCell ⟨B3, 5, none⟩ (.slice (some ⟨g2, off2, none⟩) ml 0) = y := ⟨_, rfl⟩
                  rw [hyc] at HQ
                  have HWc : Hid (yb.setCell ⟨B3, 5, none⟩ (.slice (some ⟨g2, off2, none⟩) ml 0) = yc) := hyc
                  have HRC : Hid (rc = ⟨⟨r.c.li, L, r.c.tk - x.2⟩, d - x.2, some ⟨g2, off2, none⟩, 0⟩) := hrc
                  clear hyc hrc HP
                  rename Hid (LB w wr B1 B2 B3 v2 rc yc) => HP
                  go_upto_region 20 with fail
                  rw [HWc.out]
                  clear c5 zzc
                  have e5 : yc.cell? ⟨B3, 5, none⟩ = some (.slice (some ⟨g2, off2, none⟩) ml 0) := (HP.out.l.cell 5).trans (by rw [HRC.out, HML.out]; rfl)
                  have ccd : yc.cell? ⟨B3, 6, none⟩ = some (.int .i64 rc.de) := HP.out.l.cell 6
                  have zzd := HP.out.l.fz 6
                  have HQ : Hid (LB w wr B1 B2 B3 v2 (⟨rc.c, 0, rc.la, rc.lc⟩) (yc.setCell ⟨B3, 6, none⟩ (.int .i64 0))) := HP.out.set HOL.out 6 _ rfl
                  obtain ⟨yd, hyd⟩ : ∃ y, yc.setCell ⟨B3, 6, none⟩ (.int .i64 0) = y := ⟨_, rfl⟩
                  rw [hyd] at HQ
                  have HWd : Hid (yc.setCell ⟨B3, 6, none⟩ (.int .i64 0) = yd) := hyd
                  clear hyd HP
                  rename Hid (LB w wr B1 B2 B3 v2 (⟨rc.c, 0, rc.la, rc.lc⟩) yd) => HP
                  go_upto_region 22 with fail
                  rw [HWd.out]
                  clear ccd zzd e5
                  have HFI : Hid (RIt yd ⟨rc.c, 0, rc.la, rc.lc⟩ ∧ takeC r.c = rc.c ∧ (0 : Int) = (if wtB L then d - x.2 else 0)) := by
                    refine ⟨⟨?_, ?_, ?_⟩, ?_, ?_⟩
                    · show LK 2 riL 124 yd rc.la rc.c.L
                      rw [HRC.out]
                      show LK 2 riL 124 yd _ L
                      rw [HLN.out]; exact LK.nil
                    · show rc.c.L.length ≤ rc.lc
                      rw [HRC.out]
                      show L.length ≤ _
                      rw [HLN.out]; exact Nat.zero_le _
                    · show rc.lc ≤ _
                      rw [HRC.out]
                      exact Nat.zero_le _
                    · rw [HTK.out, HRC.out]
                    · rw [HLN.out]; rfl
                  refine MixH.start (fun A => RqvAt A B1 v2 ∧ RlvAt A B3 (⟨rc.c, 0, rc.la, rc.lc⟩)) (by kernel_rfl) ?_
                  obtain ⟨wL, hwA⟩ : ∃ W_, W_ = yd.drew := ⟨_, rfl⟩
                  have bdr : Below yd.heap.size yd wL := by rw [hwA]; exact (Below.refl _ _).drew
                  have HL2 : Hid (LB w wr B1 B2 B3 v2 (⟨rc.c, 0, rc.la, rc.lc⟩) wL) := HP.out.below bdr
                  have hS : RqvAt wL B1 v2 ∧ RlvAt wL B3 (⟨rc.c, 0, rc.la, rc.lc⟩) := ⟨HL2.out.q, HL2.out.l⟩
                  have HSL : Hid (RS wL v2 rs1) := (HI.out.2.2.1.chq HL2.out.k HI.out.1).turn (by rw [HV2.out]) (by rw [HV2.out]) (by rw [HV2.out])
                  have QP : Hid _ := put_any v2 rs1 a (⟨rc.c, 0, rc.la, rc.lc⟩) wL HSL.out (List.getElem?_eq_some_iff.1 HRR.out).1 (HFI.out.1.below bdr)
                  rw [← hwA]
                  clear hwA bdr
                  refine MixH.takes [false, true, false, false, false, true, true] 9 (by kernel_rfl) (by kernel_rfl) (by decide) (by kernel_rfl) hS (fun K hK => ?_)
                  simp only [Mix.pick]
                  repeat (go_big_quiet_step (fail))
                  refine wpQuiet_nil (hK _ ?_)
                  clear hK K
                  refine MixH.take 8 0 _ (.agg (rqA v2)) rfl (by kernel_rfl) (by kernel_rfl) (by kernel_rfl) (by kernel_rfl) (yields_rqv (.tmp 1) rfl B1 0 v2 rfl rfl (fun A hA => hA.1.all)) hS (fun a' ha => ?_)
                  simp only [Act.put, List.setIfInBounds_toArray, List.set_cons_succ, List.set_cons_zero] at ha
                  subst ha
                  refine MixH.take 7 2 _ (.int .i64 (a : Int)) rfl (by kernel_rfl) (by kernel_rfl) (by kernel_rfl) (by kernel_rfl) (yields_int (.tmp 83) rfl ⟨B1, 1, none⟩ (.int .i64 (a : Int)) rfl rfl (fun A hA => (RqvAt.cell hA.1 1).trans (by rw [← HV2A.out]; rfl))) hS (fun a' ha => ?_)
                  simp only [Act.put, List.setIfInBounds_toArray, List.set_cons_succ, List.set_cons_zero] at ha
                  subst ha
                  refine MixH.take 6 3 _ (.agg (rlA (⟨rc.c, 0, rc.la, rc.lc⟩))) rfl (by kernel_rfl) (by kernel_rfl) (by kernel_rfl) (by kernel_rfl) (yields_rlv (.tmp 7) rfl B3 0 (⟨rc.c, 0, rc.la, rc.lc⟩) rfl rfl (fun A hA => hA.2.all)) hS (fun a' ha => ?_)
                  simp only [Act.put, List.setIfInBounds_toArray, List.set_cons_succ, List.set_cons_zero] at ha
                  subst ha
                  refine MixH.take 5 7 _ (.int .i64 (a : Int)) rfl (by kernel_rfl) (by kernel_rfl) (by kernel_rfl) (by kernel_rfl) (yields_int (.tmp 88) rfl ⟨B1, 1, none⟩ (.int .i64 (a : Int)) rfl rfl (fun A hA => (RqvAt.cell hA.1 1).trans (by rw [← HV2A.out]; rfl))) hS (fun a' ha => ?_)
                  simp only [Act.put, List.setIfInBounds_toArray, List.set_cons_succ, List.set_cons_zero] at ha
                  subst ha
                  refine MixH.one [false, false, false, false, true] 4 4 _ rfl rfl (by kernel_rfl) (by kernel_rfl) (fun K hK => ?_)
                  simp only [Mix.pick]
                  go_wp2_with fail
                  refine Calls.mono (QP.out) ?_
                  rintro ep yp ⟨la, lc, rfl, s5, b5⟩
                  obtain ⟨v5, hv5⟩ : ∃ v5 : RQ, v5 = ⟨la, v2.n, lc, v2.at', v2.gv⟩ := ⟨_, rfl⟩
                  rw [← hv5]
                  have HP5 : Hid (RS yp v5 (rs1.set a (⟨rc.c, 0, rc.la, rc.lc⟩)) ∧ RqvAt yp B2 qz ∧ Below w.heap.size w yp ∧ v5.at' = v2.at' ∧ v5.gv = v2.gv) := by rw [hv5]; exact ⟨s5, HL2.out.z.below b5, HL2.out.b.trans (b5.mono HL2.out.b.size), rfl, rfl⟩
                  replace hS : RqvAt yp B1 v2 ∧ RlvAt yp B3 (⟨rc.c, 0, rc.la, rc.lc⟩) := ⟨hS.1.below b5, hS.2.below b5⟩
                  clear s5 b5 hv5
                  go_wp2_with fail
                  refine ⟨rfl, hK _ _ hS ?_⟩
                  clear hK K
                  refine MixH.one [false, false, false, false, false, false, false, false, true] 3 8 _ rfl rfl (by kernel_rfl) (by kernel_rfl) (fun K hK => ?_)
                  simp only [Mix.pick]
                  refine wpList_store_rqv (.tmp 2) (.tmp 86) rfl rfl B2 qz v5 rfl rfl HP5.out.2.1 rfl ?_
                  intro yq hq kq
                  have HQ5 : Hid (RqvAt yq B2 v5 ∧ RS yq v5 (rs1.set a (⟨rc.c, 0, rc.la, rc.lc⟩)) ∧ Below w.heap.size w yq) := ⟨hq, HP5.out.1.chq kq HP5.out.2.1, HP5.out.2.2.1.trans (kq.below (fun q hq' => by have := HO.out; omega) HP5.out.2.2.1.size)⟩
                  replace hS : RqvAt yq B1 v2 ∧ RlvAt yq B3 (⟨rc.c, 0, rc.la, rc.lc⟩) := ⟨hS.1.ch kq (by have := HO.out; omega), hS.2.ch kq (by have := HOL.out; omega)⟩
                  clear hq kq
                  refine ⟨rfl, hK _ _ hS ?_⟩
                  clear hK K
                  refine MixH.takes [false, false, false, false, false, false, false, false, false, true, true, true] 0 (by kernel_rfl) (by kernel_rfl) (by decide) (by kernel_rfl) hS (fun K hK => ?_)
                  simp only [Mix.pick]
                  repeat (go_big_quiet_step (fail))
                  refine wpQuiet_nil (hK _ ?_)
                  clear hK K
                  refine MixH.done (by kernel_rfl) ?_
                  clear hS QP
                  go_wp2_with fail
                  refine bodyPost_ret (results_rqv4 rfl _ _ B2 _ rfl HQ5.out.1) rfl ?_
                  refine ⟨v5, rs1.set a (⟨rc.c, 0, rc.la, rc.lc⟩), by rw [HYES.out.1, HYES.out.2, HAN.out]; rfl, HQ5.out.2.1, ?_, ?_, HQ5.out.2.2⟩
                  · unfold popQ
                    rw [HAN.out, HRUN.out.fin, if_pos rfl, csR_set, HI.out.2.2.2.1]
                    unfold popCs
                    rw [HGA.out, HCA.out, HFI.out.2.1]
                  · unfold popT
                    rw [HAN.out, HRUN.out.fin, if_pos rfl, HPD.out]
                    exact pop_rt HGRT.out (List.getElem?_eq_some_iff.1 HRR.out).1 HFI.out.2.2 HP5.out.2.2.2.1 HP5.out.2.2.2.2
                · clear hml
                  have c5 : yb.cell? ⟨B3, 5, none⟩ = some (.slice (some ⟨g2, off2, none⟩) m r.lc) := (HP.out.l.cell 5).trans (by rw [← HM.out, ← HLA.out]; rfl)
                  have zzc := HP.out.l.fz 5
                  obtain ⟨rc, hrc⟩ : ∃ rc : RL, rc = ⟨⟨r.c.li, L, r.c.tk - x.2⟩, d - x.2, some ⟨g2, off2 + 2, none⟩, (r.lc - 1)⟩ := ⟨_, rfl⟩
                  have HQ : Hid (LB w wr B1 B2 B3 v2 rc (yb.setCell ⟨B3, 5, none⟩ (.slice (some ⟨g2, off2 + 2, none⟩) ml (r.lc - 1)))) := HP.out.set HOL.out 5 _ (by rw [hrc]; unfold rlA; rw [← HML.out]; rfl)
                  obtain ⟨yc, hyc⟩ : ∃ y, yb.setCell ⟨B3, 5, none⟩ (.slice (some ⟨g2, off2 + 2, none⟩) ml (r.lc - 1)) = y := ⟨_, rfl⟩
                  rw [hyc] at HQ
                  have HWc : Hid (yb.setCell ⟨B3, 5, none⟩ (.slice (some ⟨g2, off2 + 2, none⟩) ml (r.lc - 1)) = yc) := hyc
                  have HRC : Hid (rc = ⟨⟨r.c.li, L, r.c.tk - x.2⟩, d - x.2, some ⟨g2, off2 + 2, none⟩, (r.lc - 1)⟩) := hrc
                  clear hyc hrc HP
                  rename Hid (LB w wr B1 B2 B3 v2 rc yc) => HP
                  go_upto_region 20 with fail
                  rw [HWc.out]
                  clear c5 zzc
                  have e5 : yc.cell? ⟨B3, 5, none⟩ = some (.slice (some ⟨g2, off2 + 2, none⟩) ml (r.lc - 1)) := (HP.out.l.cell 5).trans (by rw [HRC.out, HML.out]; rfl)
                  have ccd : yc.cell? ⟨B3, 6, none⟩ = some (.int .i64 rc.de) := HP.out.l.cell 6
                  have zzd := HP.out.l.fz 6
                  have HQ : Hid (LB w wr B1 B2 B3 v2 (⟨rc.c, 0, rc.la, rc.lc⟩) (yc.setCell ⟨B3, 6, none⟩ (.int .i64 0))) := HP.out.set HOL.out 6 _ rfl
                  obtain ⟨yd, hyd⟩ : ∃ y, yc.setCell ⟨B3, 6, none⟩ (.int .i64 0) = y := ⟨_, rfl⟩
                  rw [hyd] at HQ
                  have HWd : Hid (yc.setCell ⟨B3, 6, none⟩ (.int .i64 0) = yd) := hyd
                  clear hyd HP
                  rename Hid (LB w wr B1 B2 B3 v2 (⟨rc.c, 0, rc.la, rc.lc⟩) yd) => HP
                  go_upto_region 22 with fail
                  rw [HWd.out]
                  clear ccd zzd e5
                  have HFI : Hid (RIt yd ⟨rc.c, 0, rc.la, rc.lc⟩ ∧ takeC r.c = rc.c ∧ (0 : Int) = (if wtB L then d - x.2 else 0)) := by
                    refine ⟨⟨?_, ?_, ?_⟩, ?_, ?_⟩
                    · show LK 2 riL 124 yd rc.la rc.c.L
                      rw [HRC.out]
                      show LK 2 riL 124 yd _ L
                      rw [HLN.out]; exact LK.nil
                    · show rc.c.L.length ≤ rc.lc
                      rw [HRC.out]
                      show L.length ≤ _
                      rw [HLN.out]; exact Nat.zero_le _
                    · show rc.lc ≤ _
                      rw [HRC.out]
                      show r.lc - 1 ≤ maxLen
                      have := HCAP.out; omega
                    · rw [HTK.out, HRC.out]
                    · rw [HLN.out]; rfl
                  refine MixH.start (fun A => RqvAt A B1 v2 ∧ RlvAt A B3 (⟨rc.c, 0, rc.la, rc.lc⟩)) (by kernel_rfl) ?_
                  obtain ⟨wL, hwA⟩ : ∃ W_, W_ = yd.drew := ⟨_, rfl⟩
                  have bdr : Below yd.heap.size yd wL := by rw [hwA]; exact (Below.refl _ _).drew
                  have HL2 : Hid (LB w wr B1 B2 B3 v2 (⟨rc.c, 0, rc.la, rc.lc⟩) wL) := HP.out.below bdr
                  have hS : RqvAt wL B1 v2 ∧ RlvAt wL B3 (⟨rc.c, 0, rc.la, rc.lc⟩) := ⟨HL2.out.q, HL2.out.l⟩
                  have HSL : Hid (RS wL v2 rs1) := (HI.out.2.2.1.chq HL2.out.k HI.out.1).turn (by rw [HV2.out]) (by rw [HV2.out]) (by rw [HV2.out])
                  have QP : Hid _ := put_any v2 rs1 a (⟨rc.c, 0, rc.la, rc.lc⟩) wL HSL.out (List.getElem?_eq_some_iff.1 HRR.out).1 (HFI.out.1.below bdr)
                  rw [← hwA]
                  clear hwA bdr
                  refine MixH.takes [false, true, false, false, false, true, true] 9 (by kernel_rfl) (by kernel_rfl) (by decide) (by kernel_rfl) hS (fun K hK => ?_)
                  simp only [Mix.pick]
                  repeat (go_big_quiet_step (fail))
                  refine wpQuiet_nil (hK _ ?_)
                  clear hK K
                  refine MixH.take 8 0 _ (.agg (rqA v2)) rfl (by kernel_rfl) (by kernel_rfl) (by kernel_rfl) (by kernel_rfl) (yields_rqv (.tmp 1) rfl B1 0 v2 rfl rfl (fun A hA => hA.1.all)) hS (fun a' ha => ?_)
                  simp only [Act.put, List.setIfInBounds_toArray, List.set_cons_succ, List.set_cons_zero] at ha
                  subst ha
                  refine MixH.take 7 2 _ (.int .i64 (a : Int)) rfl (by kernel_rfl) (by kernel_rfl) (by kernel_rfl) (by kernel_rfl) (yields_int (.tmp 83) rfl ⟨B1, 1, none⟩ (.int .i64 (a : Int)) rfl rfl (fun A hA => (RqvAt.cell hA.1 1).trans (by rw [← HV2A.out]; rfl))) hS (fun a' ha => ?_)
                  simp only [Act.put, List.setIfInBounds_toArray, List.set_cons_succ, List.set_cons_zero] at ha
                  subst ha
                  refine MixH.take 6 3 _ (.agg (rlA (⟨rc.c, 0, rc.la, rc.lc⟩))) rfl (by kernel_rfl) (by kernel_rfl) (by kernel_rfl) (by kernel_rfl) (yields_rlv (.tmp 7) rfl B3 0 (⟨rc.c, 0, rc.la, rc.lc⟩) rfl rfl (fun A hA => hA.2.all)) hS (fun a' ha => ?_)
                  simp only [Act.put, List.setIfInBounds_toArray, List.set_cons_succ, List.set_cons_zero] at ha
                  subst ha
                  refine MixH.take 5 7 _ (.int .i64 (a : Int)) rfl (by kernel_rfl) (by kernel_rfl) (by kernel_rfl) (by kernel_rfl) (yields_int (.tmp 88) rfl ⟨B1, 1, none⟩ (.int .i64 (a : Int)) rfl rfl (fun A hA => (RqvAt.cell hA.1 1).trans (by rw [← HV2A.out]; rfl))) hS (fun a' ha => ?_)
                  simp only [Act.put, List.setIfInBounds_toArray, List.set_cons_succ, List.set_cons_zero] at ha
                  subst ha
                  refine MixH.one [false, false, false, false, true] 4 4 _ rfl rfl (by kernel_rfl) (by kernel_rfl) (fun K hK => ?_)
                  simp only [Mix.pick]
                  go_wp2_with fail
                  refine Calls.mono (QP.out) ?_
                  rintro ep yp ⟨la, lc, rfl, s5, b5⟩
                  obtain ⟨v5, hv5⟩ : ∃ v5 : RQ, v5 = ⟨la, v2.n, lc, v2.at', v2.gv⟩ := ⟨_, rfl⟩
                  rw [← hv5]
                  have HP5 : Hid (RS yp v5 (rs1.set a (⟨rc.c, 0, rc.la, rc.lc⟩)) ∧ RqvAt yp B2 qz ∧ Below w.heap.size w yp ∧ v5.at' = v2.at' ∧ v5.gv = v2.gv) := by rw [hv5]; exact ⟨s5, HL2.out.z.below b5, HL2.out.b.trans (b5.mono HL2.out.b.size), rfl, rfl⟩
                  replace hS : RqvAt yp B1 v2 ∧ RlvAt yp B3 (⟨rc.c, 0, rc.la, rc.lc⟩) := ⟨hS.1.below b5, hS.2.below b5⟩
                  clear s5 b5 hv5
                  go_wp2_with fail
                  refine ⟨rfl, hK _ _ hS ?_⟩
                  clear hK K
                  refine MixH.one [false, false, false, false, false, false, false, false, true] 3 8 _ rfl rfl (by kernel_rfl) (by kernel_rfl) (fun K hK => ?_)
                  simp only [Mix.pick]
                  refine wpList_store_rqv (.tmp 2) (.tmp 86) rfl rfl B2 qz v5 rfl rfl HP5.out.2.1 rfl ?_
                  intro yq hq kq
                  have HQ5 : Hid (RqvAt yq B2 v5 ∧ RS yq v5 (rs1.set a (⟨rc.c, 0, rc.la, rc.lc⟩)) ∧ Below w.heap.size w yq) := ⟨hq, HP5.out.1.chq kq HP5.out.2.1, HP5.out.2.2.1.trans (kq.below (fun q hq' => by have := HO.out; omega) HP5.out.2.2.1.size)⟩
                  replace hS : RqvAt yq B1 v2 ∧ RlvAt yq B3 (⟨rc.c, 0, rc.la, rc.lc⟩) := ⟨hS.1.ch kq (by have := HO.out; omega), hS.2.ch kq (by have := HOL.out; omega)⟩
                  clear hq kq
                  refine ⟨rfl, hK _ _ hS ?_⟩
                  clear hK K
                  refine MixH.takes [false, false, false, false, false, false, false, false, false, true, true, true] 0 (by kernel_rfl) (by kernel_rfl) (by decide) (by kernel_rfl) hS (fun K hK => ?_)
                  simp only [Mix.pick]
                  repeat (go_big_quiet_step (fail))
                  refine wpQuiet_nil (hK _ ?_)
                  clear hK K
                  refine MixH.done (by kernel_rfl) ?_
                  clear hS QP
                  go_wp2_with fail
                  refine bodyPost_ret (results_rqv4 rfl _ _ B2 _ rfl HQ5.out.1) rfl ?_
                  refine ⟨v5, rs1.set a (⟨rc.c, 0, rc.la, rc.lc⟩), by rw [HYES.out.1, HYES.out.2, HAN.out]; rfl, HQ5.out.2.1, ?_, ?_, HQ5.out.2.2⟩
                  · unfold popQ
                    rw [HAN.out, HRUN.out.fin, if_pos rfl, csR_set, HI.out.2.2.2.1]
                    unfold popCs
                    rw [HGA.out, HCA.out, HFI.out.2.1]
                  · unfold popT
                    rw [HAN.out, HRUN.out.fin, if_pos rfl, HPD.out]
                    exact pop_rt HGRT.out (List.getElem?_eq_some_iff.1 HRR.out).1 HFI.out.2.2 HP5.out.2.2.2.1 HP5.out.2.2.2.2
              · have qml : ((ml : Int) == 0) = false := by simp; omega
                have hlc : ¬ r.lc = 1 := by have h1 := HCAP.out; have h2 := HMM.out; omega
                have HLNE : Hid (ml ≠ 0) := hml
                clear hml
                have c5 : yb.cell? ⟨B3, 5, none⟩ = some (.slice (some ⟨g2, off2, none⟩) m r.lc) := (HP.out.l.cell 5).trans (by rw [← HM.out, ← HLA.out]; rfl)
                have zzc := HP.out.l.fz 5
                obtain ⟨rc, hrc⟩ : ∃ rc : RL, rc = ⟨⟨r.c.li, L, r.c.tk - x.2⟩, d - x.2, some ⟨g2, off2 + 2, none⟩, (r.lc - 1)⟩ := ⟨_, rfl⟩
                have HQ : Hid (LB w wr B1 B2 B3 v2 rc (yb.setCell ⟨B3, 5, none⟩ (.slice (some ⟨g2, off2 + 2, none⟩) ml (r.lc - 1)))) := HP.out.set HOL.out 5 _ (by rw [hrc]; unfold rlA; rw [← HML.out]; rfl)
                obtain ⟨yc, hyc⟩ : ∃ y, yb.setCell ⟨B3, 5, none⟩ (.slice (some ⟨g2, off2 + 2, none⟩) ml (r.lc - 1)) = y := ⟨_, rfl⟩
                rw [hyc] at HQ
                have HWc : Hid (yb.setCell ⟨B3, 5, none⟩ (.slice (some ⟨g2, off2 + 2, none⟩) ml (r.lc - 1)) = yc) := hyc
                have HRC : Hid (rc = ⟨⟨r.c.li, L, r.c.tk - x.2⟩, d - x.2, some ⟨g2, off2 + 2, none⟩, (r.lc - 1)⟩) := hrc
                clear hyc hrc HP
                rename Hid (LB w wr B1 B2 B3 v2 rc yc) => HP
                go_upto_region 20 with fail
                rw [HWc.out]
                clear c5 zzc
                have e5 : yc.cell? ⟨B3, 5, none⟩ = some (.slice (some ⟨g2, off2 + 2, none⟩) ml (r.lc - 1)) := (HP.out.l.cell 5).trans (by rw [HRC.out, HML.out]; rfl)
                go_upto_region 22 with fail
                clear e5
                have HFI : Hid (RIt yc rc ∧ takeC r.c = rc.c ∧ rc.de = (if wtB L then d - x.2 else 0)) := by
                  refine ⟨⟨?_, ?_, ?_⟩, ?_, ?_⟩
                  · rw [HRC.out]
                    have h2 := ((HI.out.2.2.1.chq HP.out.k HI.out.1).it r (List.mem_of_getElem? HRR.out)).1
                    rw [HLA.out, HL.out] at h2
                    exact RIt.tail h2
                  · rw [HRC.out]
                    show L.length ≤ r.lc - 1
                    have := HCAP.out; have h4 := HML.out; have h5 := HMM.out; omega
                  · rw [HRC.out]
                    show r.lc - 1 ≤ maxLen
                    have := HCAP.out; omega
                  · rw [HTK.out, HRC.out]
                  · rw [HRC.out, if_pos]
                    unfold wtB
                    exact decide_eq_true (by have h4 := HML.out; have h5 := HLNE.out; omega)
                refine MixH.start (fun A => RqvAt A B1 v2 ∧ RlvAt A B3 (rc)) (by kernel_rfl) ?_
                obtain ⟨wL, hwA⟩ : ∃ W_, W_ = yc.drew := ⟨_, rfl⟩
                have bdr : Below yc.heap.size yc wL := by rw [hwA]; exact (Below.refl _ _).drew
                have HL2 : Hid (LB w wr B1 B2 B3 v2 (rc) wL) := HP.out.below bdr
                have hS : RqvAt wL B1 v2 ∧ RlvAt wL B3 (rc) := ⟨HL2.out.q, HL2.out.l⟩
                have HSL : Hid (RS wL v2 rs1) := (HI.out.2.2.1.chq HL2.out.k HI.out.1).turn (by rw [HV2.out]) (by rw [HV2.out]) (by rw [HV2.out])
                have QP : Hid _ := put_any v2 rs1 a (rc) wL HSL.out (List.getElem?_eq_some_iff.1 HRR.out).1 (HFI.out.1.below bdr)
                rw [← hwA]
                clear hwA bdr
                refine MixH.takes [false, true, false, false, false, true, true] 9 (by kernel_rfl) (by kernel_rfl) (by decide) (by kernel_rfl) hS (fun K hK => ?_)
                simp only [Mix.pick]
                repeat (go_big_quiet_step (fail))
                refine wpQuiet_nil (hK _ ?_)
                clear hK K
                refine MixH.take 8 0 _ (.agg (rqA v2)) rfl (by kernel_rfl) (by kernel_rfl) (by kernel_rfl) (by kernel_rfl) (yields_rqv (.tmp 1) rfl B1 0 v2 rfl rfl (fun A hA => hA.1.all)) hS (fun a' ha => ?_)
                simp only [Act.put, List.setIfInBounds_toArray, List.set_cons_succ, List.set_cons_zero] at ha
                subst ha
                refine MixH.take 7 2 _ (.int .i64 (a : Int)) rfl (by kernel_rfl) (by kernel_rfl) (by kernel_rfl) (by kernel_rfl) (yields_int (.tmp 83) rfl ⟨B1, 1, none⟩ (.int .i64 (a : Int)) rfl rfl (fun A hA => (RqvAt.cell hA.1 1).trans (by rw [← HV2A.out]; rfl))) hS (fun a' ha => ?_)
                simp only [Act.put, List.setIfInBounds_toArray, List.set_cons_succ, List.set_cons_zero] at ha
                subst ha
                refine MixH.take 6 3 _ (.agg (rlA (rc))) rfl (by kernel_rfl) (by kernel_rfl) (by kernel_rfl) (by kernel_rfl) (yields_rlv (.tmp 7) rfl B3 0 (rc) rfl rfl (fun A hA => hA.2.all)) hS (fun a' ha => ?_)
                simp only [Act.put, List.setIfInBounds_toArray, List.set_cons_succ, List.set_cons_zero] at ha
                subst ha
                refine MixH.take 5 7 _ (.int .i64 (a : Int)) rfl (by kernel_rfl) (by kernel_rfl) (by kernel_rfl) (by kernel_rfl) (yields_int (.tmp 88) rfl ⟨B1, 1, none⟩ (.int .i64 (a : Int)) rfl rfl (fun A hA => (RqvAt.cell hA.1 1).trans (by rw [← HV2A.out]; rfl))) hS (fun a' ha => ?_)
                simp only [Act.put, List.setIfInBounds_toArray, List.set_cons_succ, List.set_cons_zero] at ha
                subst ha
                refine MixH.one [false, false, false, false, true] 4 4 _ rfl rfl (by kernel_rfl) (by kernel_rfl) (fun K hK => ?_)
                simp only [Mix.pick]
                go_wp2_with fail
                refine Calls.mono (QP.out) ?_
                rintro ep yp ⟨la, lc, rfl, s5, b5⟩
                obtain ⟨v5, hv5⟩ : ∃ v5 : RQ, v5 = ⟨la, v2.n, lc, v2.at', v2.gv⟩ := ⟨_, rfl⟩
                rw [← hv5]
                have HP5 : Hid (RS yp v5 (rs1.set a (rc)) ∧ RqvAt yp B2 qz ∧ Below w.heap.size w yp ∧ v5.at' = v2.at' ∧ v5.gv = v2.gv) := by rw [hv5]; exact ⟨s5, HL2.out.z.below b5, HL2.out.b.trans (b5.mono HL2.out.b.size), rfl, rfl⟩
                replace hS : RqvAt yp B1 v2 ∧ RlvAt yp B3 (rc) := ⟨hS.1.below b5, hS.2.below b5⟩
                clear s5 b5 hv5
                go_wp2_with fail
                refine ⟨rfl, hK _ _ hS ?_⟩
                clear hK K
                refine MixH.one [false, false, false, false, false, false, false, false, true] 3 8 _ rfl rfl (by kernel_rfl) (by kernel_rfl) (fun K hK => ?_)
                simp only [Mix.pick]
                refine wpList_store_rqv (.tmp 2) (.tmp 86) rfl rfl B2 qz v5 rfl rfl HP5.out.2.1 rfl ?_
                intro yq hq kq
                have HQ5 : Hid (RqvAt yq B2 v5 ∧ RS yq v5 (rs1.set a (rc)) ∧ Below w.heap.size w yq) := ⟨hq, HP5.out.1.chq kq HP5.out.2.1, HP5.out.2.2.1.trans (kq.below (fun q hq' => by have := HO.out; omega) HP5.out.2.2.1.size)⟩
                replace hS : RqvAt yq B1 v2 ∧ RlvAt yq B3 (rc) := ⟨hS.1.ch kq (by have := HO.out; omega), hS.2.ch kq (by have := HOL.out; omega)⟩
                clear hq kq
                refine ⟨rfl, hK _ _ hS ?_⟩
                clear hK K
                refine MixH.takes [false, false, false, false, false, false, false, false, false, true, true, true] 0 (by kernel_rfl) (by kernel_rfl) (by decide) (by kernel_rfl) hS (fun K hK => ?_)
                simp only [Mix.pick]
                repeat (go_big_quiet_step (fail))
                refine wpQuiet_nil (hK _ ?_)
                clear hK K
                refine MixH.done (by kernel_rfl) ?_
                clear hS QP
                go_wp2_with fail
                refine bodyPost_ret (results_rqv4 rfl _ _ B2 _ rfl HQ5.out.1) rfl ?_
                refine ⟨v5, rs1.set a (rc), by rw [HYES.out.1, HYES.out.2, HAN.out]; rfl, HQ5.out.2.1, ?_, ?_, HQ5.out.2.2⟩
                · unfold popQ
                  rw [HAN.out, HRUN.out.fin, if_pos rfl, csR_set, HI.out.2.2.2.1]
                  unfold popCs
                  rw [HGA.out, HCA.out, HFI.out.2.1]
                · unfold popT
                  rw [HAN.out, HRUN.out.fin, if_pos rfl, HPD.out]
                  exact pop_rt HGRT.out (List.getElem?_eq_some_iff.1 HRR.out).1 HFI.out.2.2 HP5.out.2.2.2.1 HP5.out.2.2.2.2
            · have qra : decide (0 < r.c.li.ra) = false := decide_eq_false hra
              have HTK : Hid (takeC r.c = ⟨r.c.li, L, r.c.tk⟩) := by show _ = _; rw [takeC_hd HL.out, if_neg hra, HL.out]; rfl
              clear hra
              go_upto_region 19 with fail
              clear c3
              by_cases hml : ml = 0
              · have qml : ((ml : Int) == 0) = true := by simp [hml]
                have HLN : Hid (L = []) := List.eq_nil_of_length_eq_zero (by rw [← HML.out]; exact hml)
                by_cases hlc : r.lc = 1
                · have HLC : Hid (r.lc = 1) := hlc
                  clear hml
                  have c5 : ya.cell? ⟨B3, 5, none⟩ = some (.slice (some ⟨g2, off2, none⟩) m r.lc) := (HP.out.l.cell 5).trans (by rw [← HM.out, ← HLA.out]; rfl)
                  have zzc := HP.out.l.fz 5
                  obtain ⟨rc, hrc⟩ : ∃ rc : RL, rc = ⟨⟨r.c.li, L, r.c.tk⟩, d - x.2, some ⟨g2, off2, none⟩, 0⟩ := ⟨_, rfl⟩
                  have HQ : Hid (LB w wr B1 B2 B3 v2 rc (ya.setCell ⟨B3, 5, none⟩ (.slice (some ⟨g2, off2, none⟩) ml 0))) := HP.out.set HOL.out 5 _ (by rw [hrc]; unfold rlA; rw [← HML.out]; rfl)
                  obtain ⟨yc, hyc⟩ : ∃ y, ya.setCell ⟨B3, 5, none⟩ (.slice (some ⟨g2, off2, none⟩) ml 0) = y := ⟨_, rfl⟩
                  rw [hyc] at HQ
                  have HWc : Hid (ya.setCell ⟨B3, 5, none⟩ (.slice (some ⟨g2, off2, none⟩) ml 0) = yc) := hyc
                  have HRC : Hid (rc = ⟨⟨r.c.li, L, r.c.tk⟩, d - x.2, some ⟨g2, off2, none⟩, 0⟩) := hrc
                  clear hyc hrc HP
                  rename Hid (LB w wr B1 B2 B3 v2 rc yc) => HP
                  go_upto_region 20 with fail
                  rw [HWc.out]
                  clear c5 zzc
                  have e5 : yc.cell? ⟨B3, 5, none⟩ = some (.slice (some ⟨g2, off2, none⟩) ml 0) := (HP.out.l.cell 5).trans (by rw [HRC.out, HML.out]; rfl)
                  have ccd : yc.cell? ⟨B3, 6, none⟩ = some (.int .i64 rc.de) := HP.out.l.cell 6
                  have zzd := HP.out.l.fz 6
                  have HQ : Hid (LB w wr B1 B2 B3 v2 (⟨rc.c, 0, rc.la, rc.lc⟩) (yc.setCell ⟨B3, 6, none⟩ (.int .i64 0))) := HP.out.set HOL.out 6 _ rfl
                  obtain ⟨yd, hyd⟩ : ∃ y, yc.setCell ⟨B3, 6, none⟩ (.int .i64 0) = y := ⟨_, rfl⟩
                  rw [hyd] at HQ
                  have HWd : Hid (yc.setCell ⟨B3, 6, none⟩ (.int .i64 0) = yd) := hyd
                  clear hyd HP
                  rename Hid (LB w wr B1 B2 B3 v2 (⟨rc.c, 0, rc.la, rc.lc⟩) yd) => HP
                  go_upto_region 22 with fail
                  rw [HWd.out]
                  clear ccd zzd e5
                  have HFI : Hid (RIt yd ⟨rc.c, 0, rc.la, rc.lc⟩ ∧ takeC r.c = rc.c ∧ (0 : Int) = (if wtB L then d - x.2 else 0)) := by
                    refine ⟨⟨?_, ?_, ?_⟩, ?_, ?_⟩
                    · show LK 2 riL 124 yd rc.la rc.c.L
                      rw [HRC.out]
                      show LK 2 riL 124 yd _ L
                      rw [HLN.out]; exact LK.nil
                    · show rc.c.L.length ≤ rc.lc
                      rw [HRC.out]
                      show L.length ≤ _
                      rw [HLN.out]; exact Nat.zero_le _
                    · show rc.lc ≤ _
                      rw [HRC.out]
                      exact Nat.zero_le _
                    · rw [HTK.out, HRC.out]
                    · rw [HLN.out]; rfl
                  refine MixH.start (fun A => RqvAt A B1 v2 ∧ RlvAt A B3 (⟨rc.c, 0, rc.la, rc.lc⟩)) (by kernel_rfl) ?_
                  obtain ⟨wL, hwA⟩ : ∃ W_, W_ = yd.drew := ⟨_, rfl⟩
                  have bdr : Below yd.heap.size yd wL := by rw [hwA]; exact (Below.refl _ _).drew
                  have HL2 : Hid (LB w wr B1 B2 B3 v2 (⟨rc.c, 0, rc.la, rc.lc⟩) wL) := HP.out.below bdr
                  have hS : RqvAt wL B1 v2 ∧ RlvAt wL B3 (⟨rc.c, 0, rc.la, rc.lc⟩) := ⟨HL2.out.q, HL2.out.l⟩
                  have HSL : Hid (RS wL v2 rs1) := (HI.out.2.2.1.chq HL2.out.k HI.out.1).turn (by rw [HV2.out]) (by rw [HV2.out]) (by rw [HV2.out])
                  have QP : Hid _ := put_any v2 rs1 a (⟨rc.c, 0, rc.la, rc.lc⟩) wL HSL.out (List.getElem?_eq_some_iff.1 HRR.out).1 (HFI.out.1.below bdr)
                  rw [← hwA]
                  clear hwA bdr
                  refine MixH.takes [false, true, false, false, false, true, true] 9 (by kernel_rfl) (by kernel_rfl) (by decide) (by kernel_rfl) hS (fun K hK => ?_)
                  simp only [Mix.pick]
                  repeat (go_big_quiet_step (fail))
                  refine wpQuiet_nil (hK _ ?_)
                  clear hK K
                  refine MixH.take 8 0 _ (.agg (rqA v2)) rfl (by kernel_rfl) (by kernel_rfl) (by kernel_rfl) (by kernel_rfl) (yields_rqv (.tmp 1) rfl B1 0 v2 rfl rfl (fun A hA => hA.1.all)) hS (fun a' ha => ?_)
                  simp only [Act.put, List.setIfInBounds_toArray, List.set_cons_succ, List.set_cons_zero] at ha
                  subst ha
                  refine MixH.take 7 2 _ (.int .i64 (a : Int)) rfl (by kernel_rfl) (by kernel_rfl) (by kernel_rfl) (by kernel_rfl) (yields_int (.tmp 83) rfl ⟨B1, 1, none⟩ (.int .i64 (a : Int)) rfl rfl (fun A hA => (RqvAt.cell hA.1 1).trans (by rw [← HV2A.out]; rfl))) hS (fun a' ha => ?_)
                  simp only [Act.put, List.setIfInBounds_toArray, List.set_cons_succ, List.set_cons_zero] at ha
                  subst ha
                  refine MixH.take 6 3 _ (.agg (rlA (⟨rc.c, 0, rc.la, rc.lc⟩))) rfl (by kernel_rfl) (by kernel_rfl) (by kernel_rfl) (by kernel_rfl) (yields_rlv (.tmp 7) rfl B3 0 (⟨rc.c, 0, rc.la, rc.lc⟩) rfl rfl (fun A hA => hA.2.all)) hS (fun a' ha => ?_)
                  simp only [Act.put, List.setIfInBounds_toArray, List.set_cons_succ, List.set_cons_zero] at ha
                  subst ha
                  refine MixH.take 5 7 _ (.int .i64 (a : Int)) rfl (by kernel_rfl) (by kernel_rfl) (by kernel_rfl) (by kernel_rfl) (yields_int (.tmp 88) rfl ⟨B1, 1, none⟩ (.int .i64 (a : Int)) rfl rfl (fun A hA => (RqvAt.cell hA.1 1).trans (by rw [← HV2A.out]; rfl))) hS (fun a' ha => ?_)
                  simp only [Act.put, List.setIfInBounds_toArray, List.set_cons_succ, List.set_cons_zero] at ha
                  subst ha
                  refine MixH.one [false, false, false, false, true] 4 4 _ rfl rfl (by kernel_rfl) (by kernel_rfl) (fun K hK => ?_)
                  simp only [Mix.pick]
                  go_wp2_with fail
                  refine Calls.mono (QP.out) ?_
                  rintro ep yp ⟨la, lc, rfl, s5, b5⟩
                  obtain ⟨v5, hv5⟩ : ∃ v5 : RQ, v5 = ⟨la, v2.n, lc, v2.at', v2.gv⟩ := ⟨_, rfl⟩
                  rw [← hv5]
                  have HP5 : Hid (RS yp v5 (rs1.set a (⟨rc.c, 0, rc.la, rc.lc⟩)) ∧ RqvAt yp B2 qz ∧ Below w.heap.size w yp ∧ v5.at' = v2.at' ∧ v5.gv = v2.gv) := by rw [hv5]; exact ⟨s5, HL2.out.z.below b5, HL2.out.b.trans (b5.mono HL2.out.b.size), rfl, rfl⟩
                  replace hS : RqvAt yp B1 v2 ∧ RlvAt yp B3 (⟨rc.c, 0, rc.la, rc.lc⟩) := ⟨hS.1.below b5, hS.2.below b5⟩
                  clear s5 b5 hv5
                  go_wp2_with fail
                  refine ⟨rfl, hK _ _ hS ?_⟩
                  clear hK K
                  refine MixH.one [false, false, false, false, false, false, false, false, true] 3 8 _ rfl rfl (by kernel_rfl) (by kernel_rfl) (fun K hK => ?_)
                  simp only [Mix.pick]
                  refine wpList_store_rqv (.tmp 2) (.tmp 86) rfl rfl B2 qz v5 rfl rfl HP5.out.2.1 rfl ?_
                  intro yq hq kq
                  have HQ5 : Hid (RqvAt yq B2 v5 ∧ RS yq v5 (rs1.set a (⟨rc.c, 0, rc.la, rc.lc⟩)) ∧ Below w.heap.size w yq) := ⟨hq, HP5.out.1.chq kq HP5.out.2.1, HP5.out.2.2.1.trans (kq.below (fun q hq' => by have := HO.out; omega) HP5.out.2.2.1.size)⟩
                  replace hS : RqvAt yq B1 v2 ∧ RlvAt yq B3 (⟨rc.c, 0, rc.la, rc.lc⟩) := ⟨hS.1.ch kq (by have := HO.out; omega), hS.2.ch kq (by have := HOL.out; omega)⟩
                  clear hq kq
                  refine ⟨rfl, hK _ _ hS ?_⟩
                  clear hK K
                  refine MixH.takes [false, false, false, false, false, false, false, false, false, true, true, true] 0 (by kernel_rfl) (by kernel_rfl) (by decide) (by kernel_rfl) hS (fun K hK => ?_)
                  simp only [Mix.pick]
                  repeat (go_big_quiet_step (fail))
                  refine wpQuiet_nil (hK _ ?_)
                  clear hK K
                  refine MixH.done (by kernel_rfl) ?_
                  clear hS QP
                  go_wp2_with fail
                  refine bodyPost_ret (results_rqv4 rfl _ _ B2 _ rfl HQ5.out.1) rfl ?_
                  refine ⟨v5, rs1.set a (⟨rc.c, 0, rc.la, rc.lc⟩), by rw [HYES.out.1, HYES.out.2, HAN.out]; rfl, HQ5.out.2.1, ?_, ?_, HQ5.out.2.2⟩
                  · unfold popQ
                    rw [HAN.out, HRUN.out.fin, if_pos rfl, csR_set, HI.out.2.2.2.1]
                    unfold popCs
                    rw [HGA.out, HCA.out, HFI.out.2.1]
                  · unfold popT
                    rw [HAN.out, HRUN.out.fin, if_pos rfl, HPD.out]
                    exact pop_rt HGRT.out (List.getElem?_eq_some_iff.1 HRR.out).1 HFI.out.2.2 HP5.out.2.2.2.1 HP5.out.2.2.2.2
                · clear hml
                  have c5 : ya.cell? ⟨B3, 5, none⟩ = some (.slice (some ⟨g2, off2, none⟩) m r.lc) := (HP.out.l.cell 5).trans (by rw [← HM.out, ← HLA.out]; rfl)
                  have zzc := HP.out.l.fz 5
                  obtain ⟨rc, hrc⟩ : ∃ rc : RL, rc = ⟨⟨r.c.li, L, r.c.tk⟩, d - x.2, some ⟨g2, off2 + 2, none⟩, (r.lc - 1)⟩ := ⟨_, rfl⟩
                  have HQ : Hid (LB w wr B1 B2 B3 v2 rc (ya.setCell ⟨B3, 5, none⟩ (.slice (some ⟨g2, off2 + 2, none⟩) ml (r.lc - 1)))) := HP.out.set HOL.out 5 _ (by rw [hrc]; unfold rlA; rw [← HML.out]; rfl)
                  obtain ⟨yc, hyc⟩ : ∃ y, ya.setCell ⟨B3, 5, none⟩ (.slice (some ⟨g2, off2 + 2, none⟩) ml (r.lc - 1)) = y := ⟨_, rfl⟩
                  rw [hyc] at HQ
                  have HWc : Hid (ya.setCell ⟨B3, 5, none⟩ (.slice (some ⟨g2, off2 + 2, none⟩) ml (r.lc - 1)) = yc) := hyc
                  have HRC : Hid (rc = ⟨⟨r.c.li, L, r.c.tk⟩, d - x.2, some ⟨g2, off2 + 2, none⟩, (r.lc - 1)⟩) := hrc
                  clear hyc hrc HP
                  rename Hid (LB w wr B1 B2 B3 v2 rc yc) => HP
                  go_upto_region 20 with fail
                  rw [HWc.out]
                  clear c5 zzc
                  have e5 : yc.cell? ⟨B3, 5, none⟩ = some (.slice (some ⟨g2, off2 + 2, none⟩) ml (r.lc - 1)) := (HP.out.l.cell 5).trans (by rw [HRC.out, HML.out]; rfl)
                  have ccd : yc.cell? ⟨B3, 6, none⟩ = some (.int .i64 rc.de) := HP.out.l.cell 6
                  have zzd := HP.out.l.fz 6
                  have HQ : Hid (LB w wr B1 B2 B3 v2 (⟨rc.c, 0, rc.la, rc.lc⟩) (yc.setCell ⟨B3, 6, none⟩ (.int .i64 0))) := HP.out.set HOL.out 6 _ rfl
                  obtain ⟨yd, hyd⟩ : ∃ y, yc.setCell ⟨B3, 6, none⟩ (.int .i64 0) = y := ⟨_, rfl⟩
                  rw [hyd] at HQ
                  have HWd : Hid (yc.setCell ⟨B3, 6, none⟩ (.int .i64 0) = yd) := hyd
                  clear hyd HP
                  rename Hid (LB w wr B1 B2 B3 v2 (⟨rc.c, 0, rc.la, rc.lc⟩) yd) => HP
                  go_upto_region 22 with fail
                  rw [HWd.out]
                  clear ccd zzd e5
                  have HFI : Hid (RIt yd ⟨rc.c, 0, rc.la, rc.lc⟩ ∧ takeC r.c = rc.c ∧ (0 : Int) = (if wtB L then d - x.2 else 0)) := by
                    refine ⟨⟨?_, ?_, ?_⟩, ?_, ?_⟩
                    · show LK 2 riL 124 yd rc.la rc.c.L
                      rw [HRC.out]
                      show LK 2 riL 124 yd _ L
                      rw [HLN.out]; exact LK.nil
                    · show rc.c.L.length ≤ rc.lc
                      rw [HRC.out]
                      show L.length ≤ _
                      rw [HLN.out]; exact Nat.zero_le _
                    · show rc.lc ≤ _
                      rw [HRC.out]
                      show r.lc - 1 ≤ maxLen
                      have := HCAP.out; omega
                    · rw [HTK.out, HRC.out]
                    · rw [HLN.out]; rfl
                  refine MixH.start (fun A => RqvAt A B1 v2 ∧ RlvAt A B3 (⟨rc.c, 0, rc.la, rc.lc⟩)) (by kernel_rfl) ?_
                  obtain ⟨wL, hwA⟩ : ∃ W_, W_ = yd.drew := ⟨_, rfl⟩
                  have bdr : Below yd.heap.size yd wL := by rw [hwA]; exact (Below.refl _ _).drew
                  have HL2 : Hid (LB w wr B1 B2 B3 v2 (⟨rc.c, 0, rc.la, rc.lc⟩) wL) := HP.out.below bdr
                  have hS : RqvAt wL B1 v2 ∧ RlvAt wL B3 (⟨rc.c, 0, rc.la, rc.lc⟩) := ⟨HL2.out.q, HL2.out.l⟩
                  have HSL : Hid (RS wL v2 rs1) := (HI.out.2.2.1.chq HL2.out.k HI.out.1).turn (by rw [HV2.out]) (by rw [HV2.out]) (by rw [HV2.out])
                  have QP : Hid _ := put_any v2 rs1 a (⟨rc.c, 0, rc.la, rc.lc⟩) wL HSL.out (List.getElem?_eq_some_iff.1 HRR.out).1 (HFI.out.1.below bdr)
                  rw [← hwA]
                  clear hwA bdr
                  refine MixH.takes [false, true, false, false, false, true, true] 9 (by kernel_rfl) (by kernel_rfl) (by decide) (by kernel_rfl) hS (fun K hK => ?_)
                  simp only [Mix.pick]
                  repeat (go_big_quiet_step (fail))
                  refine wpQuiet_nil (hK _ ?_)
                  clear hK K
                  refine MixH.take 8 0 _ (.agg (rqA v2)) rfl (by kernel_rfl) (by kernel_rfl) (by kernel_rfl) (by kernel_rfl) (yields_rqv (.tmp 1) rfl B1 0 v2 rfl rfl (fun A hA => hA.1.all)) hS (fun a' ha => ?_)
                  simp only [Act.put, List.setIfInBounds_toArray, List.set_cons_succ, List.set_cons_zero] at ha
                  subst ha
                  refine MixH.take 7 2 _ (.int .i64 (a : Int)) rfl (by kernel_rfl) (by kernel_rfl) (by kernel_rfl) (by kernel_rfl) (yields_int (.tmp 83) rfl ⟨B1, 1, none⟩ (.int .i64 (a : Int)) rfl rfl (fun A hA => (RqvAt.cell hA.1 1).trans (by rw [← HV2A.out]; rfl))) hS (fun a' ha => ?_)
                  simp only [Act.put, List.setIfInBounds_toArray, List.set_cons_succ, List.set_cons_zero] at ha
                  subst ha
                  refine MixH.take 6 3 _ (.agg (rlA (⟨rc.c, 0, rc.la, rc.lc⟩))) rfl (by kernel_rfl) (by kernel_rfl) (by kernel_rfl) (by kernel_rfl) (yields_rlv (.tmp 7) rfl B3 0 (⟨rc.c, 0, rc.la, rc.lc⟩) rfl rfl (fun A hA => hA.2.all)) hS (fun a' ha => ?_)
                  simp only [Act.put, List.setIfInBounds_toArray, List.set_cons_succ, List.set_cons_zero] at ha
                  subst ha
                  refine MixH.take 5 7 _ (.int .i64 (a : Int)) rfl (by kernel_rfl) (by kernel_rfl) (by kernel_rfl) (by kernel_rfl) (yields_int (.tmp 88) rfl ⟨B1, 1, none⟩ (.int .i64 (a : Int)) rfl rfl (fun A hA => (RqvAt.cell hA.1 1).trans (by rw [← HV2A.out]; rfl))) hS (fun a' ha => ?_)
                  simp only [Act.put, List.setIfInBounds_toArray, List.set_cons_succ, List.set_cons_zero] at ha
                  subst ha
                  refine MixH.one [false, false, false, false, true] 4 4 _ rfl rfl (by kernel_rfl) (by kernel_rfl) (fun K hK => ?_)
                  simp only [Mix.pick]
                  go_wp2_with fail
                  refine Calls.mono (QP.out) ?_
                  rintro ep yp ⟨la, lc, rfl, s5, b5⟩
                  obtain ⟨v5, hv5⟩ : ∃ v5 : RQ, v5 = ⟨la, v2.n, lc, v2.at', v2.gv⟩ := ⟨_, rfl⟩
                  rw [← hv5]
                  have HP5 : Hid (RS yp v5 (rs1.set a (⟨rc.c, 0, rc.la, rc.lc⟩)) ∧ RqvAt yp B2 qz ∧ Below w.heap.size w yp ∧ v5.at' = v2.at' ∧ v5.gv = v2.gv) := by rw [hv5]; exact ⟨s5, HL2.out.z.below b5, HL2.out.b.trans (b5.mono HL2.out.b.size), rfl, rfl⟩
                  replace hS : RqvAt yp B1 v2 ∧ RlvAt yp B3 (⟨rc.c, 0, rc.la, rc.lc⟩) := ⟨hS.1.below b5, hS.2.below b5⟩
                  clear s5 b5 hv5
                  go_wp2_with fail
                  refine ⟨rfl, hK _ _ hS ?_⟩
                  clear hK K
                  refine MixH.one [false, false, false, false, false, false, false, false, true] 3 8 _ rfl rfl (by kernel_rfl) (by kernel_rfl) (fun K hK => ?_)
                  simp only [Mix.pick]
                  refine wpList_store_rqv (.tmp 2) (.tmp 86) rfl rfl B2 qz v5 rfl rfl HP5.out.2.1 rfl ?_
                  intro yq hq kq
                  have HQ5 : Hid (RqvAt yq B2 v5 ∧ RS yq v5 (rs1.set a (⟨rc.c, 0, rc.la, rc.lc⟩)) ∧ Below w.heap.size w yq) := ⟨hq, HP5.out.1.chq kq HP5.out.2.1, HP5.out.2.2.1.trans (kq.below (fun q hq' => by have := HO.out; omega) HP5.out.2.2.1.size)⟩
                  replace hS : RqvAt yq B1 v2 ∧ RlvAt yq B3 (⟨rc.c, 0, rc.la, rc.lc⟩) := ⟨hS.1.ch kq (by have := HO.out; omega), hS.2.ch kq (by have := HOL.out; omega)⟩
                  clear hq kq
                  refine ⟨rfl, hK _ _ hS ?_⟩
                  clear hK K
                  refine MixH.takes [false, false, false, false, false, false, false, false, false, true, true, true] 0 (by kernel_rfl) (by kernel_rfl) (by decide) (by kernel_rfl) hS (fun K hK => ?_)
                  simp only [Mix.pick]
                  repeat (go_big_quiet_step (fail))
                  refine wpQuiet_nil (hK _ ?_)
                  clear hK K
                  refine MixH.done (by kernel_rfl) ?_
                  clear hS QP
                  go_wp2_with fail
                  refine bodyPost_ret (results_rqv4 rfl _ _ B2 _ rfl HQ5.out.1) rfl ?_
                  refine ⟨v5, rs1.set a (⟨rc.c, 0, rc.la, rc.lc⟩), by rw [HYES.out.1, HYES.out.2, HAN.out]; rfl, HQ5.out.2.1, ?_, ?_, HQ5.out.2.2⟩
                  · unfold popQ
                    rw [HAN.out, HRUN.out.fin, if_pos rfl, csR_set, HI.out.2.2.2.1]
                    unfold popCs
                    rw [HGA.out, HCA.out, HFI.out.2.1]
                  · unfold popT
                    rw [HAN.out, HRUN.out.fin, if_pos rfl, HPD.out]
                    exact pop_rt HGRT.out (List.getElem?_eq_some_iff.1 HRR.out).1 HFI.out.2.2 HP5.out.2.2.2.1 HP5.out.2.2.2.2
              · have qml : ((ml : Int) == 0) = false := by simp; omega
                have hlc : ¬ r.lc = 1 := by have h1 := HCAP.out; have h2 := HMM.out; omega
                have HLNE : Hid (ml ≠ 0) := hml
                clear hml
                have c5 : ya.cell? ⟨B3, 5, none⟩ = some (.slice (some ⟨g2, off2, none⟩) m r.lc) := (HP.out.l.cell 5).trans (by rw [← HM.out, ← HLA.out]; rfl)
                have zzc := HP.out.l.fz 5
                obtain ⟨rc, hrc⟩ : ∃ rc : RL, rc = ⟨⟨r.c.li, L, r.c.tk⟩, d - x.2, some ⟨g2, off2 + 2, none⟩, (r.lc - 1)⟩ := ⟨_, rfl⟩
                have HQ : Hid (LB w wr B1 B2 B3 v2 rc (ya.setCell ⟨B3, 5, none⟩ (.slice (some ⟨g2, off2 + 2, none⟩) ml (r.lc - 1)))) := HP.out.set HOL.out 5 _ (by rw [hrc]; unfold rlA; rw [← HML.out]; rfl)
                obtain ⟨yc, hyc⟩ : ∃ y, ya.setCell ⟨B3, 5, none⟩ (.slice (some ⟨g2, off2 + 2, none⟩) ml (r.lc - 1)) = y := ⟨_, rfl⟩
                rw [hyc] at HQ
                have HWc : Hid (ya.setCell ⟨B3, 5, none⟩ (.slice (some ⟨g2, off2 + 2, none⟩) ml (r.lc - 1)) = yc) := hyc
                have HRC : Hid (rc = ⟨⟨r.c.li, L, r.c.tk⟩, d - x.2, some ⟨g2, off2 + 2, none⟩, (r.lc - 1)⟩) := hrc
                clear hyc hrc HP
                rename Hid (LB w wr B1 B2 B3 v2 rc yc) => HP
                go_upto_region 20 with fail
                rw [HWc.out]
                clear c5 zzc
                have e5 : yc.cell? ⟨B3, 5, none⟩ = some (.slice (some ⟨g2, off2 + 2, none⟩) ml (r.lc - 1)) := (HP.out.l.cell 5).trans (by rw [HRC.out, HML.out]; rfl)
                go_upto_region 22 with fail
                clear e5
                have HFI : Hid (RIt yc rc ∧ takeC r.c = rc.c ∧ rc.de = (if wtB L then d - x.2 else 0)) := by
                  refine ⟨⟨?_, ?_, ?_⟩, ?_, ?_⟩
                  · rw [HRC.out]
                    have h2 := ((HI.out.2.2.1.chq HP.out.k HI.out.1).it r (List.mem_of_getElem? HRR.out)).1
                    rw [HLA.out, HL.out] at h2
                    exact RIt.tail h2
                  · rw [HRC.out]
                    show L.length ≤ r.lc - 1
                    have := HCAP.out; have h4 := HML.out; have h5 := HMM.out; omega
                  · rw [HRC.out]
                    show r.lc - 1 ≤ maxLen
                    have := HCAP.out; omega
                  · rw [HTK.out, HRC.out]
                  · rw [HRC.out, if_pos]
                    unfold wtB
                    exact decide_eq_true (by have h4 := HML.out; have h5 := HLNE.out; omega)
                refine MixH.start (fun A => RqvAt A B1 v2 ∧ RlvAt A B3 (rc)) (by kernel_rfl) ?_
                obtain ⟨wL, hwA⟩ : ∃ W_, W_ = yc.drew := ⟨_, rfl⟩
                have bdr : Below yc.heap.size yc wL := by rw [hwA]; exact (Below.refl _ _).drew
                have HL2 : Hid (LB w wr B1 B2 B3 v2 (rc) wL) := HP.out.below bdr
                have hS : RqvAt wL B1 v2 ∧ RlvAt wL B3 (rc) := ⟨HL2.out.q, HL2.out.l⟩
                have HSL : Hid (RS wL v2 rs1) := (HI.out.2.2.1.chq HL2.out.k HI.out.1).turn (by rw [HV2.out]) (by rw [HV2.out]) (by rw [HV2.out])
                have QP : Hid _ := put_any v2 rs1 a (rc) wL HSL.out (List.getElem?_eq_some_iff.1 HRR.out).1 (HFI.out.1.below bdr)
                rw [← hwA]
                clear hwA bdr
                refine MixH.takes [false, true, false, false, false, true, true] 9 (by kernel_rfl) (by kernel_rfl) (by decide) (by kernel_rfl) hS (fun K hK => ?_)
                simp only [Mix.pick]
                repeat (go_big_quiet_step (fail))
                refine wpQuiet_nil (hK _ ?_)
                clear hK K
                refine MixH.take 8 0 _ (.agg (rqA v2)) rfl (by kernel_rfl) (by kernel_rfl) (by kernel_rfl) (by kernel_rfl) (yields_rqv (.tmp 1) rfl B1 0 v2 rfl rfl (fun A hA => hA.1.all)) hS (fun a' ha => ?_)
                simp only [Act.put, List.setIfInBounds_toArray, List.set_cons_succ, List.set_cons_zero] at ha
                subst ha
                refine MixH.take 7 2 _ (.int .i64 (a : Int)) rfl (by kernel_rfl) (by kernel_rfl) (by kernel_rfl) (by kernel_rfl) (yields_int (.tmp 83) rfl ⟨B1, 1, none⟩ (.int .i64 (a : Int)) rfl rfl (fun A hA => (RqvAt.cell hA.1 1).trans (by rw [← HV2A.out]; rfl))) hS (fun a' ha => ?_)
                simp only [Act.put, List.setIfInBounds_toArray, List.set_cons_succ, List.set_cons_zero] at ha
                subst ha
                refine MixH.take 6 3 _ (.agg (rlA (rc))) rfl (by kernel_rfl) (by kernel_rfl) (by kernel_rfl) (by kernel_rfl) (yields_rlv (.tmp 7) rfl B3 0 (rc) rfl rfl (fun A hA => hA.2.all)) hS (fun a' ha => ?_)
                simp only [Act.put, List.setIfInBounds_toArray, List.set_cons_succ, List.set_cons_zero] at ha
                subst ha
                refine MixH.take 5 7 _ (.int .i64 (a : Int)) rfl (by kernel_rfl) (by kernel_rfl) (by kernel_rfl) (by kernel_rfl) (yields_int (.tmp 88) rfl ⟨B1, 1, none⟩ (.int .i64 (a : Int)) rfl rfl (fun A hA => (RqvAt.cell hA.1 1).trans (by rw [← HV2A.out]; rfl))) hS (fun a' ha => ?_)
                simp only [Act.put, List.setIfInBounds_toArray, List.set_cons_succ, List.set_cons_zero] at ha
                subst ha
                refine MixH.one [false, false, false, false, true] 4 4 _ rfl rfl (by kernel_rfl) (by kernel_rfl) (fun K hK => ?_)
                simp only [Mix.pick]
                go_wp2_with fail
                refine Calls.mono (QP.out) ?_
                rintro ep yp ⟨la, lc, rfl, s5, b5⟩
                obtain ⟨v5, hv5⟩ : ∃ v5 : RQ, v5 = ⟨la, v2.n, lc, v2.at', v2.gv⟩ := ⟨_, rfl⟩
                rw [← hv5]
                have HP5 : Hid (RS yp v5 (rs1.set a (rc)) ∧ RqvAt yp B2 qz ∧ Below w.heap.size w yp ∧ v5.at' = v2.at' ∧ v5.gv = v2.gv) := by rw [hv5]; exact ⟨s5, HL2.out.z.below b5, HL2.out.b.trans (b5.mono HL2.out.b.size), rfl, rfl⟩
                replace hS : RqvAt yp B1 v2 ∧ RlvAt yp B3 (rc) := ⟨hS.1.below b5, hS.2.below b5⟩
                clear s5 b5 hv5
                go_wp2_with fail
                refine ⟨rfl, hK _ _ hS ?_⟩
                clear hK K
                refine MixH.one [false, false, false, false, false, false, false, false, true] 3 8 _ rfl rfl (by kernel_rfl) (by kernel_rfl) (fun K hK => ?_)
                simp only [Mix.pick]
                refine wpList_store_rqv (.tmp 2) (.tmp 86) rfl rfl B2 qz v5 rfl rfl HP5.out.2.1 rfl ?_
                intro yq hq kq
                have HQ5 : Hid (RqvAt yq B2 v5 ∧ RS yq v5 (rs1.set a (rc)) ∧ Below w.heap.size w yq) := ⟨hq, HP5.out.1.chq kq HP5.out.2.1, HP5.out.2.2.1.trans (kq.below (fun q hq' => by have := HO.out; omega) HP5.out.2.2.1.size)⟩
                replace hS : RqvAt yq B1 v2 ∧ RlvAt yq B3 (rc) := ⟨hS.1.ch kq (by have := HO.out; omega), hS.2.ch kq (by have := HOL.out; omega)⟩
                clear hq kq
                refine ⟨rfl, hK _ _ hS ?_⟩
                clear hK K
                refine MixH.takes [false, false, false, false, false, false, false, false, false, true, true, true] 0 (by kernel_rfl) (by kernel_rfl) (by decide) (by kernel_rfl) hS (fun K hK => ?_)
                simp only [Mix.pick]
                repeat (go_big_quiet_step (fail))
                refine wpQuiet_nil (hK _ ?_)
                clear hK K
                refine MixH.done (by kernel_rfl) ?_
                clear hS QP
                go_wp2_with fail
                refine bodyPost_ret (results_rqv4 rfl _ _ B2 _ rfl HQ5.out.1) rfl ?_
                refine ⟨v5, rs1.set a (rc), by rw [HYES.out.1, HYES.out.2, HAN.out]; rfl, HQ5.out.2.1, ?_, ?_, HQ5.out.2.2⟩
                · unfold popQ
                  rw [HAN.out, HRUN.out.fin, if_pos rfl, csR_set, HI.out.2.2.2.1]
                  unfold popCs
                  rw [HGA.out, HCA.out, HFI.out.2.1]
                · unfold popT
                  rw [HAN.out, HRUN.out.fin, if_pos rfl, HPD.out]
                  exact pop_rt HGRT.out (List.getElem?_eq_some_iff.1 HRR.out).1 HFI.out.2.2 HP5.out.2.2.2.1 HP5.out.2.2.2.2
        | true =>
          have HDV : Hid (d = r.de) := by
            show _ = _
            rw [HD.out, HV1.out.2.2]
            unfold gr
            rw [HUAE.out, HCA.out, HRDY.out, HGG.out]
            rfl
          have HQ : Hid (LB w wr B1 B2 B3 v2 ⟨r.c, d, r.la, r.lc⟩ x4) := by
            have e1 : v2 = v1 := by rw [HV2.out, ← HGG.out, ← HI.out.2.2.2.2.1.2.1]
            rw [e1, HDV.out]
            exact HP.out
          clear HP
          rename Hid (LB w wr B1 B2 B3 v2 ⟨r.c, d, r.la, r.lc⟩ x4) => HP
          go_upto_region 11 with fail
          clear c2
          have HGRT : Hid (RT (rs1.set a ⟨r.c, d, r.la, r.lc⟩) v2 (gr cs u)) := gr_rt HI.out.2.2.2.2.1 HUAE.out HRR.out HCA.out HRDY.out HD.out (by rw [HV2.out]) (by rw [HV2.out])
          have c5 : x4.cell? ⟨B3, 5, none⟩ = some (.slice (some ⟨g2, off2, none⟩) m r.lc) := (HP.out.l.cell 5).trans (by rw [← HM.out, ← HLA.out]; rfl)
          have ci := (((HI.out.2.2.1.chq HP.out.k HI.out.1).it r (List.mem_of_getElem? HRR.out)).head2 HL.out HLA.out)
          have ci0 := ci.1
          have ci1 := ci.2
          have c6 : x4.cell? ⟨B3, 6, none⟩ = some (.int .i64 d) := HP.out.l.cell 6
          clear ci
          by_cases hsd : d < x.2
          · have qsd : decide (d < x.2) = true := decide_eq_true hsd
            have HSF : Hid (srv cs u = false) := by show _ = _; unfold srv; rw [HUAE.out, HCA.out, HRDY.out, HHD.out, ← HD.out, Bool.true_and]; exact decide_eq_false (by omega)
            have HNO : Hid (QOk cs (nxt cs u)) := HI.out.2.2.2.2.2.1.nxt HSF.out
            have HMZ : Hid (mz cs k (nxt cs u) < mz cs k u) := mz_nxt HI.out.2.2.2.2.2.1 HK.out.1 HK.out.2 HSF.out
            clear hsd
            go_upto_region 14 with fail
            clear c5 ci0 ci1 c6
            have c1 : x4.cell? ⟨B1, 1, none⟩ = some (.int .i64 (a : Int)) := (HP.out.q.cell 1).trans (by rw [← HV2A.out]; rfl)
            have HSL : Hid (RS x4 v2 rs1) := (HI.out.2.2.1.chq HP.out.k HI.out.1).turn (by rw [HV2.out]) (by rw [HV2.out]) (by rw [HV2.out])
            have QP : Hid _ := put_any v2 rs1 a ⟨r.c, d, r.la, r.lc⟩ x4 HSL.out (List.getElem?_eq_some_iff.1 HRR.out).1 (HSL.out.it r (List.mem_of_getElem? HRR.out))
            go_wp2_with (first | (refine wpList_load_rqv (.tmp 1) rfl B1 v2 rfl HP.out.q rfl ?_) | (refine wpList_load_rlv (.tmp 7) rfl B3 ⟨r.c, d, r.la, r.lc⟩ rfl HP.out.l rfl ?_))
            refine Calls.mono QP.out ?_
            rintro ep yp ⟨la, lc, rfl, s5, b5⟩
            obtain ⟨v5, hv5⟩ : ∃ v5 : RQ, v5 = ⟨la, v2.n, lc, v2.at', v2.gv⟩ := ⟨_, rfl⟩
            have HP5 : Hid (RS yp v5 (rs1.set a ⟨r.c, d, r.la, r.lc⟩) ∧ RqvAt yp B1 v2 ∧ RqvAt yp B2 qz ∧ Below w.heap.size w yp ∧ v5.at' = v2.at' ∧ v5.gv = v2.gv) := by rw [hv5]; exact ⟨s5, HP.out.q.below b5, HP.out.z.below b5, HP.out.b.trans (b5.mono HP.out.b.size), rfl, rfl⟩
            rw [← hv5]
            clear s5 b5 hv5 QP c1
            go_wp2_with (first | (refine wpList_store_rqv (.tmp 1) (.tmp 56) rfl rfl B1 v2 v5 rfl rfl HP5.out.2.1 rfl ?_))
            intro y6 h6 k6
            have HX6 : Hid (RqvAt y6 B1 v5 ∧ RqvAt y6 B2 qz ∧ RS y6 v5 (rs1.set a ⟨r.c, d, r.la, r.lc⟩) ∧ Below w.heap.size w y6 ∧ csR (rs1.set a ⟨r.c, d, r.la, r.lc⟩) = cs ∧ RT (rs1.set a ⟨r.c, d, r.la, r.lc⟩) v5 (gr cs u)) := ⟨h6, HP5.out.2.2.1.ch k6 (by have := HO.out; omega), HP5.out.1.chq k6 HP5.out.2.1, HP5.out.2.2.2.1.trans (k6.below (fun q hq => by have := HO.out; omega) HP5.out.2.2.2.1.size), by rw [csR_set, HI.out.2.2.2.1]; exact set_self (by have h1 := HI.out.2.2.2.1; rw [← h1]; unfold csR; rw [List.getElem?_map, HRR.out]; rfl), ⟨HP5.out.2.2.2.2.1.trans HGRT.out.1, HP5.out.2.2.2.2.2.trans HGRT.out.2.1, HGRT.out.2.2⟩⟩
            clear h6 k6 HP5
            have HNX : Hid (nxt cs u = ⟨((gr cs u).at' + 1) % cs.length, false, (lvT cs (gr cs u)).de⟩) := by show _ = _; unfold nxt; rw [gr_at]
            go_upto_region 15 with fail
            have QN : Hid _ := onward_any v5 (rs1.set a ⟨r.c, d, r.la, r.lc⟩) (gr cs u) y6 HX6.out.2.2.1 HX6.out.2.2.2.2.2 (by rw [← csR_len, HX6.out.2.2.2.2.1]; rw [gr_at]; exact HUA.out)
            go_wp2_with (first | (refine wpList_load_rqv (.tmp 1) rfl B1 v5 rfl HX6.out.1 rfl ?_))
            refine Calls.mono QN.out ?_
            rintro eo yo ⟨v4, rs4, rfl, s4, c4, t4, b4⟩
            have HY : Hid (RS yo v4 rs4 ∧ csR rs4 = cs ∧ RT rs4 v4 (nxt cs u) ∧ RqvAt yo B1 v5 ∧ RqvAt yo B2 qz ∧ Below w.heap.size w yo) := ⟨s4, c4.trans HX6.out.2.2.2.2.1, by rw [HX6.out.2.2.2.2.1, ← csR_len, HX6.out.2.2.2.2.1] at t4; rw [HNX.out]; exact t4, HX6.out.1.below b4, HX6.out.2.1.below b4, HX6.out.2.2.2.1.trans (b4.mono HX6.out.2.2.2.1.size)⟩
            clear s4 c4 t4 b4 QN
            go_wp2_with (first | (refine wpList_store_rqv (.tmp 1) (.tmp 58) rfl rfl B1 v5 v4 rfl rfl HY.out.2.2.2.1 rfl ?_))
            intro yn hn kn
            have HN : Hid (RqvAt yn B1 v4 ∧ RqvAt yn B2 qz ∧ RS yn v4 rs4 ∧ csR rs4 = cs ∧ RT rs4 v4 (nxt cs u) ∧ Below w.heap.size w yn) := ⟨hn, HY.out.2.2.2.2.1.ch kn (by have := HO.out; omega), HY.out.1.chq kn HY.out.2.2.2.1, HY.out.2.1, HY.out.2.2.1, HY.out.2.2.2.2.2.trans (kn.below (fun q hq => by have := HO.out; omega) HY.out.2.2.2.2.2.size)⟩
            clear hn kn HY
            go_wp2_with fail
            go_roundw
            case rel => exact ⟨v4, rs4, nxt cs u, HN.out.1, HN.out.2.1, HN.out.2.2.1, HN.out.2.2.2.1, HN.out.2.2.2.2.1, HNO.out, fun z hz => HI.out.2.2.2.2.2.2.1 z (.step u z HSF.out hz), HN.out.2.2.2.2.2⟩
            case measure => rw [mzR_eq HN.out.1 HN.out.2.2.1 HN.out.2.2.2.2.1 (by rw [← csR_len, HN.out.2.2.2.1]; exact HK.out.1), mzR_eq HI.out.1 HI.out.2.2.1 HI.out.2.2.2.2.1 (by rw [← csR_len, HI.out.2.2.2.1]; exact HK.out.1)]; exact HMZ.out
          · have qsd : decide (d < x.2) = false := decide_eq_false hsd
            have HSV : Hid (srv cs u = true) := by show _ = _; unfold srv; rw [HUAE.out, HCA.out, HRDY.out, HHD.out, ← HD.out, Bool.true_and]; exact decide_eq_true (by omega)
            have HRUN : Hid (Run cs t (gr cs u)) := HI.out.2.2.2.2.2.2.1 _ (.stop u HSV.out)
            have HGA : Hid ((gr cs u).at' = a) := (gr_at _ _).trans HUAE.out
            have HPD : Hid (popD cs (gr cs u) = ⟨(gr cs u).at', (gr cs u).gv, up (gr cs u).de a (if wtB L then d - x.2 else 0)⟩) := by
              show _ = _
              unfold popD
              rw [HGA.out, HCA.out, HL.out, ← HD.out]
              rfl
            have HYES : Hid (popN cs t = x.1 ∧ popC cs t = (a : Int)) := by
              unfold popN popC
              rw [HAN.out, HRUN.out.fin, HGA.out, HCA.out, HL.out]
              exact ⟨rfl, rfl⟩
            have wd2 : IntKind.i64.wrap (d - x.2) = d - x.2 := by have h1 := HDB.out; have h2 := HX2.out; exact i64_s _ (by omega) (by omega)
            clear hsd
            go_upto_region 16 with fail
            clear c5 ci0 ci1 c6
            have cca : x4.cell? ⟨B3, 6, none⟩ = some (.int .i64 d) := HP.out.l.cell 6
            have zza := HP.out.l.fz 6
            have HQ : Hid (LB w wr B1 B2 B3 v2 (⟨r.c, d - x.2, r.la, r.lc⟩) (x4.setCell ⟨B3, 6, none⟩ (.int .i64 (d - x.2)))) := HP.out.set HOL.out 6 _ rfl
            obtain ⟨ya, hya⟩ : ∃ y, x4.setCell ⟨B3, 6, none⟩ (.int .i64 (d - x.2)) = y := ⟨_, rfl⟩
            rw [hya] at HQ
            have HWa : Hid (x4.setCell ⟨B3, 6, none⟩ (.int .i64 (d - x.2)) = ya) := hya
            clear hya HP
            rename Hid (LB w wr B1 B2 B3 v2 (⟨r.c, d - x.2, r.la, r.lc⟩) ya) => HP
            go_upto_region 17 with fail
            rw [HWa.out]
            clear cca zza
            have c3 : ya.cell? ⟨B3, 3, none⟩ = some (.int .i64 r.c.li.ra) := HP.out.l.cell 3
            by_cases hra : 0 < r.c.li.ra
            · have qra : decide (0 < r.c.li.ra) = true := decide_eq_true hra
              have wtk : IntKind.i64.wrap (r.c.tk - x.2) = r.c.tk - x.2 := by have h1 := HCL.out.tk hra; have h2 := HCL.out.li.bu hra; have h3 := HX2.out; exact i64_s _ (by omega) (by omega)
              have HTK : Hid (takeC r.c = ⟨r.c.li, L, r.c.tk - x.2⟩) := by show _ = _; rw [takeC_hd HL.out, if_pos hra, HL.out]; rfl
              clear hra
              have ccb : ya.cell? ⟨B3, 7, none⟩ = some (.int .i64 r.c.tk) := HP.out.l.cell 7
              have zzb := HP.out.l.fz 7
              have HQ : Hid (LB w wr B1 B2 B3 v2 (⟨⟨r.c.li, r.c.L, r.c.tk - x.2⟩, d - x.2, r.la, r.lc⟩) (ya.setCell ⟨B3, 7, none⟩ (.int .i64 (r.c.tk - x.2)))) := HP.out.set HOL.out 7 _ rfl
              obtain ⟨yb, hyb⟩ : ∃ y, ya.setCell ⟨B3, 7, none⟩ (.int .i64 (r.c.tk - x.2)) = y := ⟨_, rfl⟩
              rw [hyb] at HQ
              have HWb : Hid (ya.setCell ⟨B3, 7, none⟩ (.int .i64 (r.c.tk - x.2)) = yb) := hyb
              clear hyb HP
              rename Hid (LB w wr B1 B2 B3 v2 (⟨⟨r.c.li, r.c.L, r.c.tk - x.2⟩, d - x.2, r.la, r.lc⟩) yb) => HP
              go_upto_region 19 with fail
              rw [HWb.out]
              clear ccb zzb c3
              by_cases hml : ml = 0
              · have qml : ((ml : Int) == 0) = true := by simp [hml]
                have HLN : Hid (L = []) := List.eq_nil_of_length_eq_zero (by rw [← HML.out]; exact hml)
                by_cases hlc : r.lc = 1
                · have HLC : Hid (r.lc = 1) := hlc
                  clear hml
                  have c5 : yb.cell? ⟨B3, 5, none⟩ = some (.slice (some ⟨g2, off2, none⟩) m r.lc) := (HP.out.l.cell 5).trans (by rw [← HM.out, ← HLA.out]; rfl)
                  have zzc := HP.out.l.fz 5
                  obtain ⟨rc, hrc⟩ : ∃ rc : RL, rc = ⟨⟨r.c.li, L, r.c.tk - x.2⟩, d - x.2, some ⟨g2, off2, none⟩, 0⟩ := ⟨_, rfl⟩
                  have HQ : Hid (LB w wr B1 B2 B3 v2 rc (yb.setCell ⟨B3, 5, none⟩ (.slice (some ⟨g2, off2, none⟩) ml 0))) := HP.out.set HOL.out 5 _ (by rw [hrc]; unfold rlA; rw [← HML.out]; rfl)
                  obtain ⟨yc, hyc⟩ : ∃ y, yb.setCell ⟨B3, 5, none⟩ (.slice (some ⟨g2, off2, none⟩) ml 0) = y := ⟨_, rfl⟩
                  rw [hyc] at HQ
                  have HWc : Hid (yb.setCell ⟨B3, 5, none⟩ (.slice (some ⟨g2, off2, none⟩) ml 0) = yc) := hyc
                  have HRC : Hid (rc = ⟨⟨r.c.li, L, r.c.tk - x.2⟩, d - x.2, some ⟨g2, off2, none⟩, 0⟩) := hrc
                  clear hyc hrc HP
                  rename Hid (LB w wr B1 B2 B3 v2 rc yc) => HP
                  go_upto_region 20 with fail
                  rw [HWc.out]
                  clear c5 zzc
                  have e5 : yc.cell? ⟨B3, 5, none⟩ = some (.slice (some ⟨g2, off2, none⟩) ml 0) := (HP.out.l.cell 5).trans (by rw [HRC.out, HML.out]; rfl)
                  have ccd : yc.cell? ⟨B3, 6, none⟩ = some (.int .i64 rc.de) := HP.out.l.cell 6
                  have zzd := HP.out.l.fz 6
                  have HQ : Hid (LB w wr B1 B2 B3 v2 (⟨rc.c, 0, rc.la, rc.lc⟩) (yc.setCell ⟨B3, 6, none⟩ (.int .i64 0))) := HP.out.set HOL.out 6 _ rfl
                  obtain ⟨yd, hyd⟩ : ∃ y, yc.setCell ⟨B3, 6, none⟩ (.int .i64 0) = y := ⟨_, rfl⟩
                  rw [hyd] at HQ
                  have HWd : Hid (yc.setCell ⟨B3, 6, none⟩ (.int .i64 0) = yd) := hyd
                  clear hyd HP
                  rename Hid (LB w wr B1 B2 B3 v2 (⟨rc.c, 0, rc.la, rc.lc⟩) yd) => HP
                  go_upto_region 22 with fail
                  rw [HWd.out]
                  clear ccd zzd e5
                  have HFI : Hid (RIt yd ⟨rc.c, 0, rc.la, rc.lc⟩ ∧ takeC r.c = rc.c ∧ (0 : Int) = (if wtB L then d - x.2 else 0)) := by
                    refine ⟨⟨?_, ?_, ?_⟩, ?_, ?_⟩
                    · show LK 2 riL 124 yd rc.la rc.c.L
                      rw [HRC.out]
                      show LK 2 riL 124 yd _ L
                      rw [HLN.out]; exact LK.nil
                    · show rc.c.L.length ≤ rc.lc
                      rw [HRC.out]
                      show L.length ≤ _
                      rw [HLN.out]; exact Nat.zero_le _
                    · show rc.lc ≤ _
                      rw [HRC.out]
                      exact Nat.zero_le _
                    · rw [HTK.out, HRC.out]
                    · rw [HLN.out]; rfl
                  refine MixH.start (fun A => RqvAt A B1 v2 ∧ RlvAt A B3 (⟨rc.c, 0, rc.la, rc.lc⟩)) (by kernel_rfl) ?_
                  obtain ⟨wL, hwA⟩ : ∃ W_, W_ = yd.drew := ⟨_, rfl⟩
                  have bdr : Below yd.heap.size yd wL := by rw [hwA]; exact (Below.refl _ _).drew
                  have HL2 : Hid (LB w wr B1 B2 B3 v2 (⟨rc.c, 0, rc.la, rc.lc⟩) wL) := HP.out.below bdr
                  have hS : RqvAt wL B1 v2 ∧ RlvAt wL B3 (⟨rc.c, 0, rc.la, rc.lc⟩) := ⟨HL2.out.q, HL2.out.l⟩
                  have HSL : Hid (RS wL v2 rs1) := (HI.out.2.2.1.chq HL2.out.k HI.out.1).turn (by rw [HV2.out]) (by rw [HV2.out]) (by rw [HV2.out])
                  have QP : Hid _ := put_any v2 rs1 a (⟨rc.c, 0, rc.la, rc.lc⟩) wL HSL.out (List.getElem?_eq_some_iff.1 HRR.out).1 (HFI.out.1.below bdr)
                  rw [← hwA]
                  clear hwA bdr
                  refine MixH.takes [false, true, false, false, false, true, true] 9 (by kernel_rfl) (by kernel_rfl) (by decide) (by kernel_rfl) hS (fun K hK => ?_)
                  simp only [Mix.pick]
                  repeat (go_big_quiet_step (fail))
                  refine wpQuiet_nil (hK _ ?_)
                  clear hK K
                  refine MixH.take 8 0 _ (.agg (rqA v2)) rfl (by kernel_rfl) (by kernel_rfl) (by kernel_rfl) (by kernel_rfl) (yields_rqv (.tmp 1) rfl B1 0 v2 rfl rfl (fun A hA => hA.1.all)) hS (fun a' ha => ?_)
                  simp only [Act.put, List.setIfInBounds_toArray, List.set_cons_succ, List.set_cons_zero] at ha
                  subst ha
                  refine MixH.take 7 2 _ (.int .i64 (a : Int)) rfl (by kernel_rfl) (by kernel_rfl) (by kernel_rfl) (by kernel_rfl) (yields_int (.tmp 83) rfl ⟨B1, 1, none⟩ (.int .i64 (a : Int)) rfl rfl (fun A hA => (RqvAt.cell hA.1 1).trans (by rw [← HV2A.out]; rfl))) hS (fun a' ha => ?_)
                  simp only [Act.put, List.setIfInBounds_toArray, List.set_cons_succ, List.set_cons_zero] at ha
                  subst ha
                  refine MixH.take 6 3 _ (.agg (rlA (⟨rc.c, 0, rc.la, rc.lc⟩))) rfl (by kernel_rfl) (by kernel_rfl) (by kernel_rfl) (by kernel_rfl) (yields_rlv (.tmp 7) rfl B3 0 (⟨rc.c, 0, rc.la, rc.lc⟩) rfl rfl (fun A hA => hA.2.all)) hS (fun a' ha => ?_)
                  simp only [Act.put, List.setIfInBounds_toArray, List.set_cons_succ, List.set_cons_zero] at ha
                  subst ha
                  refine MixH.take 5 7 _ (.int .i64 (a : Int)) rfl (by kernel_rfl) (by kernel_rfl) (by kernel_rfl) (by kernel_rfl) (yields_int (.tmp 88) rfl ⟨B1, 1, none⟩ (.int .i64 (a : Int)) rfl rfl (fun A hA => (RqvAt.cell hA.1 1).trans (by rw [← HV2A.out]; rfl))) hS (fun a' ha => ?_)
                  simp only [Act.put, List.setIfInBounds_toArray, List.set_cons_succ, List.set_cons_zero] at ha
                  subst ha
                  refine MixH.one [false, false, false, false, true] 4 4 _ rfl rfl (by kernel_rfl) (by kernel_rfl) (fun K hK => ?_)
                  simp only [Mix.pick]
                  go_wp2_with fail
                  refine Calls.mono (QP.out) ?_
                  rintro ep yp ⟨la, lc, rfl, s5, b5⟩
                  obtain ⟨v5, hv5⟩ : ∃ v5 : RQ, v5 = ⟨la, v2.n, lc, v2.at', v2.gv⟩ := ⟨_, rfl⟩
                  rw [← hv5]
                  have HP5 : Hid (RS yp v5 (rs1.set a (⟨rc.c, 0, rc.la, rc.lc⟩)) ∧ RqvAt yp B2 qz ∧ Below w.heap.size w yp ∧ v5.at' = v2.at' ∧ v5.gv = v2.gv) := by rw [hv5]; exact ⟨s5, HL2.out.z.below b5, HL2.out.b.trans (b5.mono HL2.out.b.size), rfl, rfl⟩
                  replace hS : RqvAt yp B1 v2 ∧ RlvAt yp B3 (⟨rc.c, 0, rc.la, rc.lc⟩) := ⟨hS.1.below b5, hS.2.below b5⟩
                  clear s5 b5 hv5
                  go_wp2_with fail
                  refine ⟨rfl, hK _ _ hS ?_⟩
                  clear hK K
                  refine MixH.one [false, false, false, false, false, false, false, false, true] 3 8 _ rfl rfl (by kernel_rfl) (by kernel_rfl) (fun K hK => ?_)
                  simp only [Mix.pick]
                  refine wpList_store_rqv (.tmp 2) (.tmp 86) rfl rfl B2 qz v5 rfl rfl HP5.out.2.1 rfl ?_
                  intro yq hq kq
                  have HQ5 : Hid (RqvAt yq B2 v5 ∧ RS yq v5 (rs1.set a (⟨rc.c, 0, rc.la, rc.lc⟩)) ∧ Below w.heap.size w yq) := ⟨hq, HP5.out.1.chq kq HP5.out.2.1, HP5.out.2.2.1.trans (kq.below (fun q hq' => by have := HO.out; omega) HP5.out.2.2.1.size)⟩
                  replace hS : RqvAt yq B1 v2 ∧ RlvAt yq B3 (⟨rc.c, 0, rc.la, rc.lc⟩) := ⟨hS.1.ch kq (by have := HO.out; omega), hS.2.ch kq (by have := HOL.out; omega)⟩
                  clear hq kq
                  refine ⟨rfl, hK _ _ hS ?_⟩
                  clear hK K
                  refine MixH.takes [false, false, false, false, false, false, false, false, false, true, true, true] 0 (by kernel_rfl) (by kernel_rfl) (by decide) (by kernel_rfl) hS (fun K hK => ?_)
                  simp only [Mix.pick]
                  repeat (go_big_quiet_step (fail))
                  refine wpQuiet_nil (hK _ ?_)
                  clear hK K
                  refine MixH.done (by kernel_rfl) ?_
                  clear hS QP
                  go_wp2_with fail
                  refine bodyPost_ret (results_rqv4 rfl _ _ B2 _ rfl HQ5.out.1) rfl ?_
                  refine ⟨v5, rs1.set a (⟨rc.c, 0, rc.la, rc.lc⟩), by rw [HYES.out.1, HYES.out.2, HAN.out]; rfl, HQ5.out.2.1, ?_, ?_, HQ5.out.2.2⟩
                  · unfold popQ
                    rw [HAN.out, HRUN.out.fin, if_pos rfl, csR_set, HI.out.2.2.2.1]
                    unfold popCs
                    rw [HGA.out, HCA.out, HFI.out.2.1]
                  · unfold popT
                    rw [HAN.out, HRUN.out.fin, if_pos rfl, HPD.out]
                    exact pop_rt HGRT.out (List.getElem?_eq_some_iff.1 HRR.out).1 HFI.out.2.2 HP5.out.2.2.2.1 HP5.out.2.2.2.2
                · clear hml
                  have c5 : yb.cell? ⟨B3, 5, none⟩ = some (.slice (some ⟨g2, off2, none⟩) m r.lc) := (HP.out.l.cell 5).trans (by rw [← HM.out, ← HLA.out]; rfl)
                  have zzc := HP.out.l.fz 5
                  obtain ⟨rc, hrc⟩ : ∃ rc : RL, rc = ⟨⟨r.c.li, L, r.c.tk - x.2⟩, d - x.2, some ⟨g2, off2 + 2, none⟩, (r.lc - 1)⟩ := ⟨_, rfl⟩
                  have HQ : Hid (LB w wr B1 B2 B3 v2 rc (yb.setCell ⟨B3, 5, none⟩ (.slice (some ⟨g2, off2 + 2, none⟩) ml (r.lc - 1)))) := HP.out.set HOL.out 5 _ (by rw [hrc]; unfold rlA; rw [← HML.out]; rfl)
                  obtain ⟨yc, hyc⟩ : ∃ y, yb.setCell ⟨B3, 5, none⟩ (.slice (some ⟨g2, off2 + 2, none⟩) ml (r.lc - 1)) = y := ⟨_, rfl⟩
                  rw [hyc] at HQ
                  have HWc : Hid (yb.setCell ⟨B3, 5, none⟩ (.slice (some ⟨g2, off2 + 2, none⟩) ml (r.lc - 1)) = yc) := hyc
                  have HRC : Hid (rc = ⟨⟨r.c.li, L, r.c.tk - x.2⟩, d - x.2, some ⟨g2, off2 + 2, none⟩, (r.lc - 1)⟩) := hrc
                  clear hyc hrc HP
                  rename Hid (LB w wr B1 B2 B3 v2 rc yc) => HP
                  go_upto_region 20 with fail
                  rw [HWc.out]
                  clear c5 zzc
                  have e5 : yc.cell? ⟨B3, 5, none⟩ = some (.slice (some ⟨g2, off2 + 2, none⟩) ml (r.lc - 1)) := (HP.out.l.cell 5).trans (by rw [HRC.out, HML.out]; rfl)
                  have ccd : yc.cell? ⟨B3, 6, none⟩ = some (.int .i64 rc.de) := HP.out.l.cell 6
                  have zzd := HP.out.l.fz 6
                  have HQ : Hid (LB w wr B1 B2 B3 v2 (⟨rc.c, 0, rc.la, rc.lc⟩) (yc.setCell ⟨B3, 6, none⟩ (.int .i64 0))) := HP.out.set HOL.out 6 _ rfl
                  obtain ⟨yd, hyd⟩ : ∃ y, yc.setCell ⟨B3, 6, none⟩ (.int .i64 0) = y := ⟨_, rfl⟩
                  rw [hyd] at HQ
                  have HWd : Hid (yc.setCell ⟨B3, 6, none⟩ (.int .i64 0) = yd) := hyd
                  clear hyd HP
                  rename Hid (LB w wr B1 B2 B3 v2 (⟨rc.c, 0, rc.la, rc.lc⟩) yd) => HP
                  go_upto_region 22 with fail
                  rw [HWd.out]
                  clear ccd zzd e5
                  have HFI : Hid (RIt yd ⟨rc.c, 0, rc.la, rc.lc⟩ ∧ takeC r.c = rc.c ∧ (0 : Int) = (if wtB L then d - x.2 else 0)) := by
                    refine ⟨⟨?_, ?_, ?_⟩, ?_, ?_⟩
                    · show LK 2 riL 124 yd rc.la rc.c.L
                      rw [HRC.out]
                      show LK 2 riL 124 yd _ L
                      rw [HLN.out]; exact LK.nil
                    · show rc.c.L.length ≤ rc.lc
                      rw [HRC.out]
                      show L.length ≤ _
                      rw [HLN.out]; exact Nat.zero_le _
                    · show rc.lc ≤ _
                      rw [HRC.out]
                      show r.lc - 1 ≤ maxLen
                      have := HCAP.out; omega
                    · rw [HTK.out, HRC.out]
                    · rw [HLN.out]; rfl
                  refine MixH.start (fun A => RqvAt A B1 v2 ∧ RlvAt A B3 (⟨rc.c, 0, rc.la, rc.lc⟩)) (by kernel_rfl) ?_
                  obtain ⟨wL, hwA⟩ : ∃ W_, W_ = yd.drew := ⟨_, rfl⟩
                  have bdr : Below yd.heap.size yd wL := by rw [hwA]; exact (Below.refl _ _).drew
                  have HL2 : Hid (LB w wr B1 B2 B3 v2 (⟨rc.c, 0, rc.la, rc.lc⟩) wL) := HP.out.below bdr
                  have hS : RqvAt wL B1 v2 ∧ RlvAt wL B3 (⟨rc.c, 0, rc.la, rc.lc⟩) := ⟨HL2.out.q, HL2.out.l⟩
                  have HSL : Hid (RS wL v2 rs1) := (HI.out.2.2.1.chq HL2.out.k HI.out.1).turn (by rw [HV2.out]) (by rw [HV2.out]) (by rw [HV2.out])
                  have QP : Hid _ := put_any v2 rs1 a (⟨rc.c, 0, rc.la, rc.lc⟩) wL HSL.out (List.getElem?_eq_some_iff.1 HRR.out).1 (HFI.out.1.below bdr)
                  rw [← hwA]
                  clear hwA bdr
                  refine MixH.takes [false, true, false, false, false, true, true] 9 (by kernel_rfl) (by kernel_rfl) (by decide) (by kernel_rfl) hS (fun K hK => ?_)
                  simp only [Mix.pick]
                  repeat (go_big_quiet_step (fail))
                  refine wpQuiet_nil (hK _ ?_)
                  clear hK K
                  refine MixH.take 8 0 _ (.agg (rqA v2)) rfl (by kernel_rfl) (by kernel_rfl) (by kernel_rfl) (by kernel_rfl) (yields_rqv (.tmp 1) rfl B1 0 v2 rfl rfl (fun A hA => hA.1.all)) hS (fun a' ha => ?_)
                  simp only [Act.put, List.setIfInBounds_toArray, List.set_cons_succ, List.set_cons_zero] at ha
                  subst ha
                  refine MixH.take 7 2 _ (.int .i64 (a : Int)) rfl (by kernel_rfl) (by kernel_rfl) (by kernel_rfl) (by kernel_rfl) (yields_int (.tmp 83) rfl ⟨B1, 1, none⟩ (.int .i64 (a : Int)) rfl rfl (fun A hA => (RqvAt.cell hA.1 1).trans (by rw [← HV2A.out]; rfl))) hS (fun a' ha => ?_)
                  simp only [Act.put, List.setIfInBounds_toArray, List.set_cons_succ, List.set_cons_zero] at ha
                  subst ha
                  refine MixH.take 6 3 _ (.agg (rlA (⟨rc.c, 0, rc.la, rc.lc⟩))) rfl (by kernel_rfl) (by kernel_rfl) (by kernel_rfl) (by kernel_rfl) (yields_rlv (.tmp 7) rfl B3 0 (⟨rc.c, 0, rc.la, rc.lc⟩) rfl rfl (fun A hA => hA.2.all)) hS (fun a' ha => ?_)
                  simp only [Act.put, List.setIfInBounds_toArray, List.set_cons_succ, List.set_cons_zero] at ha
                  subst ha
                  refine MixH.take 5 7 _ (.int .i64 (a : Int)) rfl (by kernel_rfl) (by kernel_rfl) (by kernel_rfl) (by kernel_rfl) (yields_int (.tmp 88) rfl ⟨B1, 1, none⟩ (.int .i64 (a : Int)) rfl rfl (fun A hA => (RqvAt.cell hA.1 1).trans (by rw [← HV2A.out]; rfl))) hS (fun a' ha => ?_)
                  simp only [Act.put, List.setIfInBounds_toArray, List.set_cons_succ, List.set_cons_zero] at ha
                  subst ha
                  refine MixH.one [false, false, false, false, true] 4 4 _ rfl rfl (by kernel_rfl) (by kernel_rfl) (fun K hK => ?_)
                  simp only [Mix.pick]
                  go_wp2_with fail
                  refine Calls.mono (QP.out) ?_
                  rintro ep yp ⟨la, lc, rfl, s5, b5⟩
                  obtain ⟨v5, hv5⟩ : ∃ v5 : RQ, v5 = ⟨la, v2.n, lc, v2.at', v2.gv⟩ := ⟨_, rfl⟩
                  rw [← hv5]
                  have HP5 : Hid (RS yp v5 (rs1.set a (⟨rc.c, 0, rc.la, rc.lc⟩)) ∧ RqvAt yp B2 qz ∧ Below w.heap.size w yp ∧ v5.at' = v2.at' ∧ v5.gv = v2.gv) := by rw [hv5]; exact ⟨s5, HL2.out.z.below b5, HL2.out.b.trans (b5.mono HL2.out.b.size), rfl, rfl⟩
                  replace hS : RqvAt yp B1 v2 ∧ RlvAt yp B3 (⟨rc.c, 0, rc.la, rc.lc⟩) := ⟨hS.1.below b5, hS.2.below b5⟩
                  clear s5 b5 hv5
                  go_wp2_with fail
                  refine ⟨rfl, hK _ _ hS ?_⟩
                  clear hK K
                  refine MixH.one [false, false, false, false, false, false, false, false, true] 3 8 _ rfl rfl (by kernel_rfl) (by kernel_rfl) (fun K hK => ?_)
                  simp only [Mix.pick]
                  refine wpList_store_rqv (.tmp 2) (.tmp 86) rfl rfl B2 qz v5 rfl rfl HP5.out.2.1 rfl ?_
                  intro yq hq kq
                  have HQ5 : Hid (RqvAt yq B2 v5 ∧ RS yq v5 (rs1.set a (⟨rc.c, 0, rc.la, rc.lc⟩)) ∧ Below w.heap.size w yq) := ⟨hq, HP5.out.1.chq kq HP5.out.2.1, HP5.out.2.2.1.trans (kq.below (fun q hq' => by have := HO.out; omega) HP5.out.2.2.1.size)⟩
                  replace hS : RqvAt yq B1 v2 ∧ RlvAt yq B3 (⟨rc.c, 0, rc.la, rc.lc⟩) := ⟨hS.1.ch kq (by have := HO.out; omega), hS.2.ch kq (by have := HOL.out; omega)⟩
                  clear hq kq
                  refine ⟨rfl, hK _ _ hS ?_⟩
                  clear hK K
                  refine MixH.takes [false, false, false, false, false, false, false, false, false, true, true, true] 0 (by kernel_rfl) (by kernel_rfl) (by decide) (by kernel_rfl) hS (fun K hK => ?_)
                  simp only [Mix.pick]
                  repeat (go_big_quiet_step (fail))
                  refine wpQuiet_nil (hK _ ?_)
                  clear hK K
                  refine MixH.done (by kernel_rfl) ?_
                  clear hS QP
                  go_wp2_with fail
                  refine bodyPost_ret (results_rqv4 rfl _ _ B2 _ rfl HQ5.out.1) rfl ?_
                  refine ⟨v5, rs1.set a (⟨rc.c, 0, rc.la, rc.lc⟩), by rw [HYES.out.1, HYES.out.2, HAN.out]; rfl, HQ5.out.2.1, ?_, ?_, HQ5.out.2.2⟩
                  · unfold popQ
                    rw [HAN.out, HRUN.out.fin, if_pos rfl, csR_set, HI.out.2.2.2.1]
                    unfold popCs
                    rw [HGA.out, HCA.out, HFI.out.2.1]
                  · unfold popT
                    rw [HAN.out, HRUN.out.fin, if_pos rfl, HPD.out]
                    exact pop_rt HGRT.out (List.getElem?_eq_some_iff.1 HRR.out).1 HFI.out.2.2 HP5.out.2.2.2.1 HP5.out.2.2.2.2
              · have qml : ((ml : Int) == 0) = false := by simp; omega
                have hlc : ¬ r.lc = 1 := by have h1 := HCAP.out; have h2 := HMM.out; omega
                have HLNE : Hid (ml ≠ 0) := hml
                clear hml
                have c5 : yb.cell? ⟨B3, 5, none⟩ = some (.slice (some ⟨g2, off2, none⟩) m r.lc) := (HP.out.l.cell 5).trans (by rw [← HM.out, ← HLA.out]; rfl)
                have zzc := HP.out.l.fz 5
                obtain ⟨rc, hrc⟩ : ∃ rc : RL, rc = ⟨⟨r.c.li, L, r.c.tk - x.2⟩, d - x.2, some ⟨g2, off2 + 2, none⟩, (r.lc - 1)⟩ := ⟨_, rfl⟩
                have HQ : Hid (LB w wr B1 B2 B3 v2 rc (yb.setCell ⟨B3, 5, none⟩ (.slice (some ⟨g2, off2 + 2, none⟩) ml (r.lc - 1)))) := HP.out.set HOL.out 5 _ (by rw [hrc]; unfold rlA; rw [← HML.out]; rfl)
                obtain ⟨yc, hyc⟩ : ∃ y, yb.setCell ⟨B3, 5, none⟩ (.slice (some ⟨g2, off2 + 2, none⟩) ml (r.lc - 1)) = y := ⟨_, rfl⟩
                rw [hyc] at HQ
                have HWc : Hid (yb.setCell ⟨B3, 5, none⟩ (.slice (some ⟨g2, off2 + 2, none⟩) ml (r.lc - 1)) = yc) := hyc
                have HRC : Hid (rc = ⟨⟨r.c.li, L, r.c.tk - x.2⟩, d - x.2, some ⟨g2, off2 + 2, none⟩, (r.lc - 1)⟩) := hrc
                clear hyc hrc HP
                rename Hid (LB w wr B1 B2 B3 v2 rc yc) => HP
                go_upto_region 20 with fail
                rw [HWc.out]
                clear c5 zzc
                have e5 : yc.cell? ⟨B3, 5, none⟩ = some (.slice (some ⟨g2, off2 + 2, none⟩) ml (r.lc - 1)) := (HP.out.l.cell 5).trans (by rw [HRC.out, HML.out]; rfl)
                go_upto_region 22 with fail
                clear e5
                have HFI : Hid (RIt yc rc ∧ takeC r.c = rc.c ∧ rc.de = (if wtB L then d - x.2 else 0)) := by
                  refine ⟨⟨?_, ?_, ?_⟩, ?_, ?_⟩
                  · rw [HRC.out]
                    have h2 := ((HI.out.2.2.1.chq HP.out.k HI.out.1).it r (List.mem_of_getElem? HRR.out)).1
                    rw [HLA.out, HL.out] at h2
                    exact RIt.tail h2
                  · rw [HRC.out]
                    show L.length ≤ r.lc - 1
                    have := HCAP.out; have h4 := HML.out; have h5 := HMM.out; omega
                  · rw [HRC.out]
                    show r.lc - 1 ≤ maxLen
                    have := HCAP.out; omega
                  · rw [HTK.out, HRC.out]
                  · rw [HRC.out, if_pos]
                    unfold wtB
                    exact decide_eq_true (by have h4 := HML.out; have h5 := HLNE.out; omega)
                refine MixH.start (fun A => RqvAt A B1 v2 ∧ RlvAt A B3 (rc)) (by kernel_rfl) ?_
                obtain ⟨wL, hwA⟩ : ∃ W_, W_ = yc.drew := ⟨_, rfl⟩
                have bdr : Below yc.heap.size yc wL := by rw [hwA]; exact (Below.refl _ _).drew
                have HL2 : Hid (LB w wr B1 B2 B3 v2 (rc) wL) := HP.out.below bdr
                have hS : RqvAt wL B1 v2 ∧ RlvAt wL B3 (rc) := ⟨HL2.out.q, HL2.out.l⟩
                have HSL : Hid (RS wL v2 rs1) := (HI.out.2.2.1.chq HL2.out.k HI.out.1).turn (by rw [HV2.out]) (by rw [HV2.out]) (by rw [HV2.out])
                have QP : Hid _ := put_any v2 rs1 a (rc) wL HSL.out (List.getElem?_eq_some_iff.1 HRR.out).1 (HFI.out.1.below bdr)
                rw [← hwA]
                clear hwA bdr
                refine MixH.takes [false, true, false, false, false, true, true] 9 (by kernel_rfl) (by kernel_rfl) (by decide) (by kernel_rfl) hS (fun K hK => ?_)
                simp only [Mix.pick]
                repeat (go_big_quiet_step (fail))
                refine wpQuiet_nil (hK _ ?_)
                clear hK K
                refine MixH.take 8 0 _ (.agg (rqA v2)) rfl (by kernel_rfl) (by kernel_rfl) (by kernel_rfl) (by kernel_rfl) (yields_rqv (.tmp 1) rfl B1 0 v2 rfl rfl (fun A hA => hA.1.all)) hS (fun a' ha => ?_)
                simp only [Act.put, List.setIfInBounds_toArray, List.set_cons_succ, List.set_cons_zero] at ha
                subst ha
                refine MixH.take 7 2 _ (.int .i64 (a : Int)) rfl (by kernel_rfl) (by kernel_rfl) (by kernel_rfl) (by kernel_rfl) (yields_int (.tmp 83) rfl ⟨B1, 1, none⟩ (.int .i64 (a : Int)) rfl rfl (fun A hA => (RqvAt.cell hA.1 1).trans (by rw [← HV2A.out]; rfl))) hS (fun a' ha => ?_)
                simp only [Act.put, List.setIfInBounds_toArray, List.set_cons_succ, List.set_cons_zero] at ha
                subst ha
                refine MixH.take 6 3 _ (.agg (rlA (rc))) rfl (by kernel_rfl) (by kernel_rfl) (by kernel_rfl) (by kernel_rfl) (yields_rlv (.tmp 7) rfl B3 0 (rc) rfl rfl (fun A hA => hA.2.all)) hS (fun a' ha => ?_)
                simp only [Act.put, List.setIfInBounds_toArray, List.set_cons_succ, List.set_cons_zero] at ha
                subst ha
                refine MixH.take 5 7 _ (.int .i64 (a : Int)) rfl (by kernel_rfl) (by kernel_rfl) (by kernel_rfl) (by kernel_rfl) (yields_int (.tmp 88) rfl ⟨B1, 1, none⟩ (.int .i64 (a : Int)) rfl rfl (fun A hA => (RqvAt.cell hA.1 1).trans (by rw [← HV2A.out]; rfl))) hS (fun a' ha => ?_)
                simp only [Act.put, List.setIfInBounds_toArray, List.set_cons_succ, List.set_cons_zero] at ha
                subst ha
                refine MixH.one [false, false, false, false, true] 4 4 _ rfl rfl (by kernel_rfl) (by kernel_rfl) (fun K hK => ?_)
                simp only [Mix.pick]
                go_wp2_with fail
                refine Calls.mono (QP.out) ?_
                rintro ep yp ⟨la, lc, rfl, s5, b5⟩
                obtain ⟨v5, hv5⟩ : ∃ v5 : RQ, v5 = ⟨la, v2.n, lc, v2.at', v2.gv⟩ := ⟨_, rfl⟩
                rw [← hv5]
                have HP5 : Hid (RS yp v5 (rs1.set a (rc)) ∧ RqvAt yp B2 qz ∧ Below w.heap.size w yp ∧ v5.at' = v2.at' ∧ v5.gv = v2.gv) := by rw [hv5]; exact ⟨s5, HL2.out.z.below b5, HL2.out.b.trans (b5.mono HL2.out.b.size), rfl, rfl⟩
                replace hS : RqvAt yp B1 v2 ∧ RlvAt yp B3 (rc) := ⟨hS.1.below b5, hS.2.below b5⟩
                clear s5 b5 hv5
                go_wp2_with fail
                refine ⟨rfl, hK _ _ hS ?_⟩
                clear hK K
                refine MixH.one [false, false, false, false, false, false, false, false, true] 3 8 _ rfl rfl (by kernel_rfl) (by kernel_rfl) (fun K hK => ?_)
                simp only [Mix.pick]
                refine wpList_store_rqv (.tmp 2) (.tmp 86) rfl rfl B2 qz v5 rfl rfl HP5.out.2.1 rfl ?_
                intro yq hq kq
                have HQ5 : Hid (RqvAt yq B2 v5 ∧ RS yq v5 (rs1.set a (rc)) ∧ Below w.heap.size w yq) := ⟨hq, HP5.out.1.chq kq HP5.out.2.1, HP5.out.2.2.1.trans (kq.below (fun q hq' => by have := HO.out; omega) HP5.out.2.2.1.size)⟩
                replace hS : RqvAt yq B1 v2 ∧ RlvAt yq B3 (rc) := ⟨hS.1.ch kq (by have := HO.out; omega), hS.2.ch kq (by have := HOL.out; omega)⟩
                clear hq kq
                refine ⟨rfl, hK _ _ hS ?_⟩
                clear hK K
                refine MixH.takes [false, false, false, false, false, false, false, false, false, true, true, true] 0 (by kernel_rfl) (by kernel_rfl) (by decide) (by kernel_rfl) hS (fun K hK => ?_)
                simp only [Mix.pick]
                repeat (go_big_quiet_step (fail))
                refine wpQuiet_nil (hK _ ?_)
                clear hK K
                refine MixH.done (by kernel_rfl) ?_
                clear hS QP
                go_wp2_with fail
                refine bodyPost_ret (results_rqv4 rfl _ _ B2 _ rfl HQ5.out.1) rfl ?_
                refine ⟨v5, rs1.set a (rc), by rw [HYES.out.1, HYES.out.2, HAN.out]; rfl, HQ5.out.2.1, ?_, ?_, HQ5.out.2.2⟩
                · unfold popQ
                  rw [HAN.out, HRUN.out.fin, if_pos rfl, csR_set, HI.out.2.2.2.1]
                  unfold popCs
                  rw [HGA.out, HCA.out, HFI.out.2.1]
                · unfold popT
                  rw [HAN.out, HRUN.out.fin, if_pos rfl, HPD.out]
                  exact pop_rt HGRT.out (List.getElem?_eq_some_iff.1 HRR.out).1 HFI.out.2.2 HP5.out.2.2.2.1 HP5.out.2.2.2.2
            · have qra : decide (0 < r.c.li.ra) = false := decide_eq_false hra
              have HTK : Hid (takeC r.c = ⟨r.c.li, L, r.c.tk⟩) := by show _ = _; rw [takeC_hd HL.out, if_neg hra, HL.out]; rfl
              clear hra
              go_upto_region 19 with fail
              clear c3
              by_cases hml : ml = 0
              · have qml : ((ml : Int) == 0) = true := by simp [hml]
                have HLN : Hid (L = []) := List.eq_nil_of_length_eq_zero (by rw [← HML.out]; exact hml)
                by_cases hlc : r.lc = 1
                · have HLC : Hid (r.lc = 1) := hlc
                  clear hml
                  have c5 : ya.cell? ⟨B3, 5, none⟩ = some (.slice (some ⟨g2, off2, none⟩) m r.lc) := (HP.out.l.cell 5).trans (by rw [← HM.out, ← HLA.out]; rfl)
                  have zzc := HP.out.l.fz 5
                  obtain ⟨rc, hrc⟩ : ∃ rc : RL, rc = ⟨⟨r.c.li, L, r.c.tk⟩, d - x.2, some ⟨g2, off2, none⟩, 0⟩ := ⟨_, rfl⟩
                  have HQ : Hid (LB w wr B1 B2 B3 v2 rc (ya.setCell ⟨B3, 5, none⟩ (.slice (some ⟨g2, off2, none⟩) ml 0))) := HP.out.set HOL.out 5 _ (by rw [hrc]; unfold rlA; rw [← HML.out]; rfl)
                  obtain ⟨yc, hyc⟩ : ∃ y, ya.setCell ⟨B3, 5, none⟩ (.slice (some ⟨g2, off2, none⟩) ml 0) = y := ⟨_, rfl⟩
                  rw [hyc] at HQ
                  have HWc : Hid (ya.setCell ⟨B3, 5, none⟩ (.slice (some ⟨g2, off2, none⟩) ml 0) = yc) := hyc
                  have HRC : Hid (rc = ⟨⟨r.c.li, L, r.c.tk⟩, d - x.2, some ⟨g2, off2, none⟩, 0⟩) := hrc
                  clear hyc hrc HP
                  rename Hid (LB w wr B1 B2 B3 v2 rc yc) => HP
                  go_upto_region 20 with fail
                  rw [HWc.out]
                  clear c5 zzc
                  have e5 : yc.cell? ⟨B3, 5, none⟩ = some (.slice (some ⟨g2, off2, none⟩) ml 0) := (HP.out.l.cell 5).trans (by rw [HRC.out, HML.out]; rfl)
                  have ccd : yc.cell? ⟨B3, 6, none⟩ = some (.int .i64 rc.de) := HP.out.l.cell 6
                  have zzd := HP.out.l.fz 6
                  have HQ : Hid (LB w wr B1 B2 B3 v2 (⟨rc.c, 0, rc.la, rc.lc⟩) (yc.setCell ⟨B3, 6, none⟩ (.int .i64 0))) := HP.out.set HOL.out 6 _ rfl
                  obtain ⟨yd, hyd⟩ : ∃ y, yc.setCell ⟨B3, 6, none⟩ (.int .i64 0) = y := ⟨_, rfl⟩
                  rw [hyd] at HQ
                  have HWd : Hid (yc.setCell ⟨B3, 6, none⟩ (.int .i64 0) = yd) := hyd
                  clear hyd HP
                  rename Hid (LB w wr B1 B2 B3 v2 (⟨rc.c, 0, rc.la, rc.lc⟩) yd) => HP
                  go_upto_region 22 with fail
                  rw [HWd.out]
                  clear ccd zzd e5
                  have HFI : Hid (RIt yd ⟨rc.c, 0, rc.la, rc.lc⟩ ∧ takeC r.c = rc.c ∧ (0 : Int) = (if wtB L then d - x.2 else 0)) := by
                    refine ⟨⟨?_, ?_, ?_⟩, ?_, ?_⟩
                    · show LK 2 riL 124 yd rc.la rc.c.L
                      rw [HRC.out]
                      show LK 2 riL 124 yd _ L
                      rw [HLN.out]; exact LK.nil
                    · show rc.c.L.length ≤ rc.lc
                      rw [HRC.out]
                      show L.length ≤ _
                      rw [HLN.out]; exact Nat.zero_le _
                    · show rc.lc ≤ _
                      rw [HRC.out]
                      exact Nat.zero_le _
                    · rw [HTK.out, HRC.out]
                    · rw [HLN.out]; rfl
                  refine MixH.start (fun A => RqvAt A B1 v2 ∧ RlvAt A B3 (⟨rc.c, 0, rc.la, rc.lc⟩)) (by kernel_rfl) ?_
                  obtain ⟨wL, hwA⟩ : ∃ W_, W_ = yd.drew := ⟨_, rfl⟩
                  have bdr : Below yd.heap.size yd wL := by rw [hwA]; exact (Below.refl _ _).drew
                  have HL2 : Hid (LB w wr B1 B2 B3 v2 (⟨rc.c, 0, rc.la, rc.lc⟩) wL) := HP.out.below bdr
                  have hS : RqvAt wL B1 v2 ∧ RlvAt wL B3 (⟨rc.c, 0, rc.la, rc.lc⟩) := ⟨HL2.out.q, HL2.out.l⟩
                  have HSL : Hid (RS wL v2 rs1) := (HI.out.2.2.1.chq HL2.out.k HI.out.1).turn (by rw [HV2.out]) (by rw [HV2.out]) (by rw [HV2.out])
                  have QP : Hid _ := put_any v2 rs1 a (⟨rc.c, 0, rc.la, rc.lc⟩) wL HSL.out (List.getElem?_eq_some_iff.1 HRR.out).1 (HFI.out.1.below bdr)
                  rw [← hwA]
                  clear hwA bdr
                  refine MixH.takes [false, true, false, false, false, true, true] 9 (by kernel_rfl) (by kernel_rfl) (by decide) (by kernel_rfl) hS (fun K hK => ?_)
                  simp only [Mix.pick]
                  repeat (go_big_quiet_step (fail))
                  refine wpQuiet_nil (hK _ ?_)
                  clear hK K
                  refine MixH.take 8 0 _ (.agg (rqA v2)) rfl (by kernel_rfl) (by kernel_rfl) (by kernel_rfl) (by kernel_rfl) (yields_rqv (.tmp 1) rfl B1 0 v2 rfl rfl (fun A hA => hA.1.all)) hS (fun a' ha => ?_)
                  simp only [Act.put, List.setIfInBounds_toArray, List.set_cons_succ, List.set_cons_zero] at ha
                  subst ha
                  refine MixH.take 7 2 _ (.int .i64 (a : Int)) rfl (by kernel_rfl) (by kernel_rfl) (by kernel_rfl) (by kernel_rfl) (yields_int (.tmp 83) rfl ⟨B1, 1, none⟩ (.int .i64 (a : Int)) rfl rfl (fun A hA => (RqvAt.cell hA.1 1).trans (by rw [← HV2A.out]; rfl))) hS (fun a' ha => ?_)
                  simp only [Act.put, List.setIfInBounds_toArray, List.set_cons_succ, List.set_cons_zero] at ha
                  subst ha
                  refine MixH.take 6 3 _ (.agg (rlA (⟨rc.c, 0, rc.la, rc.lc⟩))) rfl (by kernel_rfl) (by kernel_rfl) (by kernel_rfl) (by kernel_rfl) (yields_rlv (.tmp 7) rfl B3 0 (⟨rc.c, 0, rc.la, rc.lc⟩) rfl rfl (fun A hA => hA.2.all)) hS (fun a' ha => ?_)
                  simp only [Act.put, List.setIfInBounds_toArray, List.set_cons_succ, List.set_cons_zero] at ha
                  subst ha
                  refine MixH.take 5 7 _ (.int .i64 (a : Int)) rfl (by kernel_rfl) (by kernel_rfl) (by kernel_rfl) (by kernel_rfl) (yields_int (.tmp 88) rfl ⟨B1, 1, none⟩ (.int .i64 (a : Int)) rfl rfl (fun A hA => (RqvAt.cell hA.1 1).trans (by rw [← HV2A.out]; rfl))) hS (fun a' ha => ?_)
                  simp only [Act.put, List.setIfInBounds_toArray, List.set_cons_succ, List.set_cons_zero] at ha
                  subst ha
                  refine MixH.one [false, false, false, false, true] 4 4 _ rfl rfl (by kernel_rfl) (by kernel_rfl) (fun K hK => ?_)
                  simp only [Mix.pick]
                  go_wp2_with fail
                  refine Calls.mono (QP.out) ?_
                  rintro ep yp ⟨la, lc, rfl, s5, b5⟩
                  obtain ⟨v5, hv5⟩ : ∃ v5 : RQ, v5 = ⟨la, v2.n, lc, v2.at', v2.gv⟩ := ⟨_, rfl⟩
                  rw [← hv5]
                  have HP5 : Hid (RS yp v5 (rs1.set a (⟨rc.c, 0, rc.la, rc.lc⟩)) ∧ RqvAt yp B2 qz ∧ Below w.heap.size w yp ∧ v5.at' = v2.at' ∧ v5.gv = v2.gv) := by rw [hv5]; exact ⟨s5, HL2.out.z.below b5, HL2.out.b.trans (b5.mono HL2.out.b.size), rfl, rfl⟩
                  replace hS : RqvAt yp B1 v2 ∧ RlvAt yp B3 (⟨rc.c, 0, rc.la, rc.lc⟩) := ⟨hS.1.below b5, hS.2.below b5⟩
                  clear s5 b5 hv5
                  go_wp2_with fail
                  refine ⟨rfl, hK _ _ hS ?_⟩
                  clear hK K
                  refine MixH.one [false, false, false, false, false, false, false, false, true] 3 8 _ rfl rfl (by kernel_rfl) (by kernel_rfl) (fun K hK => ?_)
                  simp only [Mix.pick]
                  refine wpList_store_rqv (.tmp 2) (.tmp 86) rfl rfl B2 qz v5 rfl rfl HP5.out.2.1 rfl ?_
                  intro yq hq kq
                  have HQ5 : Hid (RqvAt yq B2 v5 ∧ RS yq v5 (rs1.set a (⟨rc.c, 0, rc.la, rc.lc⟩)) ∧ Below w.heap.size w yq) := ⟨hq, HP5.out.1.chq kq HP5.out.2.1, HP5.out.2.2.1.trans (kq.below (fun q hq' => by have := HO.out; omega) HP5.out.2.2.1.size)⟩
                  replace hS : RqvAt yq B1 v2 ∧ RlvAt yq B3 (⟨rc.c, 0, rc.la, rc.lc⟩) := ⟨hS.1.ch kq (by have := HO.out; omega), hS.2.ch kq (by have := HOL.out; omega)⟩
                  clear hq kq
                  refine ⟨rfl, hK _ _ hS ?_⟩
                  clear hK K
                  refine MixH.takes [false, false, false, false, false, false, false, false, false, true, true, true] 0 (by kernel_rfl) (by kernel_rfl) (by decide) (by kernel_rfl) hS (fun K hK => ?_)
                  simp only [Mix.pick]
                  repeat (go_big_quiet_step (fail))
                  refine wpQuiet_nil (hK _ ?_)
                  clear hK K
                  refine MixH.done (by kernel_rfl) ?_
                  clear hS QP
                  go_wp2_with fail
                  refine bodyPost_ret (results_rqv4 rfl _ _ B2 _ rfl HQ5.out.1) rfl ?_
                  refine ⟨v5, rs1.set a (⟨rc.c, 0, rc.la, rc.lc⟩), by rw [HYES.out.1, HYES.out.2, HAN.out]; rfl, HQ5.out.2.1, ?_, ?_, HQ5.out.2.2⟩
                  · unfold popQ
                    rw [HAN.out, HRUN.out.fin, if_pos rfl, csR_set, HI.out.2.2.2.1]
                    unfold popCs
                    rw [HGA.out, HCA.out, HFI.out.2.1]
                  · unfold popT
                    rw [HAN.out, HRUN.out.fin, if_pos rfl, HPD.out]
                    exact pop_rt HGRT.out (List.getElem?_eq_some_iff.1 HRR.out).1 HFI.out.2.2 HP5.out.2.2.2.1 HP5.out.2.2.2.2
                · clear hml
                  have c5 : ya.cell? ⟨B3, 5, none⟩ = some (.slice (some ⟨g2, off2, none⟩) m r.lc) := (HP.out.l.cell 5).trans (by rw [← HM.out, ← HLA.out]; rfl)
                  have zzc := HP.out.l.fz 5
                  obtain ⟨rc, hrc⟩ : ∃ rc : RL, rc = ⟨⟨r.c.li, L, r.c.tk⟩, d - x.2, some ⟨g2, off2 + 2, none⟩, (r.lc - 1)⟩ := ⟨_, rfl⟩
                  have HQ : Hid (LB w wr B1 B2 B3 v2 rc (ya.setCell ⟨B3, 5, none⟩ (.slice (some ⟨g2, off2 + 2, none⟩) ml (r.lc - 1)))) := HP.out.set HOL.out 5 _ (by rw [hrc]; unfold rlA; rw [← HML.out]; rfl)
                  obtain ⟨yc, hyc⟩ : ∃ y, ya.setCell ⟨B3, 5, none⟩ (.slice (some ⟨g2, off2 + 2, none⟩) ml (r.lc - 1)) = y := ⟨_, rfl⟩
                  rw [hyc] at HQ
                  have HWc : Hid (ya.setCell ⟨B3, 5, none⟩ (.slice (some ⟨g2, off2 + 2, none⟩) ml (r.lc - 1)) = yc) := hyc
                  have HRC : Hid (rc = ⟨⟨r.c.li, L, r.c.tk⟩, d - x.2, some ⟨g2, off2 + 2, none⟩, (r.lc - 1)⟩) := hrc
                  clear hyc hrc HP
                  rename Hid (LB w wr B1 B2 B3 v2 rc yc) => HP
                  go_upto_region 20 with fail
                  rw [HWc.out]
                  clear c5 zzc
                  have e5 : yc.cell? ⟨B3, 5, none⟩ = some (.slice (some ⟨g2, off2 + 2, none⟩) ml (r.lc - 1)) := (HP.out.l.cell 5).trans (by rw [HRC.out, HML.out]; rfl)
                  have ccd : yc.cell? ⟨B3, 6, none⟩ = some (.int .i64 rc.de) := HP.out.l.cell 6
                  have zzd := HP.out.l.fz 6
                  have HQ : Hid (LB w wr B1 B2 B3 v2 (⟨rc.c, 0, rc.la, rc.lc⟩) (yc.setCell ⟨B3, 6, none⟩ (.int .i64 0))) := HP.out.set HOL.out 6 _ rfl
                  obtain ⟨yd, hyd⟩ : ∃ y, yc.setCell ⟨B3, 6, none⟩ (.int .i64 0) = y := ⟨_, rfl⟩
                  rw [hyd] at HQ
                  have HWd : Hid (yc.setCell ⟨B3, 6, none⟩ (.int .i64 0) = yd) := hyd
                  clear hyd HP
                  rename Hid (LB w wr B1 B2 B3 v2 (⟨rc.c, 0, rc.la, rc.lc⟩) yd) => HP
                  go_upto_region 22 with fail
                  rw [HWd.out]
                  clear ccd zzd e5
                  have HFI : Hid (RIt yd ⟨rc.c, 0, rc.la, rc.lc⟩ ∧ takeC r.c = rc.c ∧ (0 : Int) = (if wtB L then d - x.2 else 0)) := by
                    refine ⟨⟨?_, ?_, ?_⟩, ?_, ?_⟩
                    · show LK 2 riL 124 yd rc.la rc.c.L
                      rw [HRC.out]
                      show LK 2 riL 124 yd _ L
                      rw [HLN.out]; exact LK.nil
                    · show rc.c.L.length ≤ rc.lc
                      rw [HRC.out]
                      show L.length ≤ _
                      rw [HLN.out]; exact Nat.zero_le _
                    · show rc.lc ≤ _
                      rw [HRC.out]
                      show r.lc - 1 ≤ maxLen
                      have := HCAP.out; omega
                    · rw [HTK.out, HRC.out]
                    · rw [HLN.out]; rfl
                  refine MixH.start (fun A => RqvAt A B1 v2 ∧ RlvAt A B3 (⟨rc.c, 0, rc.la, rc.lc⟩)) (by kernel_rfl) ?_
                  obtain ⟨wL, hwA⟩ : ∃ W_, W_ = yd.drew := ⟨_, rfl⟩
                  have bdr : Below yd.heap.size yd wL := by rw [hwA]; exact (Below.refl _ _).drew
                  have HL2 : Hid (LB w wr B1 B2 B3 v2 (⟨rc.c, 0, rc.la, rc.lc⟩) wL) := HP.out.below bdr
                  have hS : RqvAt wL B1 v2 ∧ RlvAt wL B3 (⟨rc.c, 0, rc.la, rc.lc⟩) := ⟨HL2.out.q, HL2.out.l⟩
                  have HSL : Hid (RS wL v2 rs1) := (HI.out.2.2.1.chq HL2.out.k HI.out.1).turn (by rw [HV2.out]) (by rw [HV2.out]) (by rw [HV2.out])
                  have QP : Hid _ := put_any v2 rs1 a (⟨rc.c, 0, rc.la, rc.lc⟩) wL HSL.out (List.getElem?_eq_some_iff.1 HRR.out).1 (HFI.out.1.below bdr)
                  rw [← hwA]
                  clear hwA bdr
                  refine MixH.takes [false, true, false, false, false, true, true] 9 (by kernel_rfl) (by kernel_rfl) (by decide) (by kernel_rfl) hS (fun K hK => ?_)
                  simp only [Mix.pick]
                  repeat (go_big_quiet_step (fail))
                  refine wpQuiet_nil (hK _ ?_)
                  clear hK K
                  refine MixH.take 8 0 _ (.agg (rqA v2)) rfl (by kernel_rfl) (by kernel_rfl) (by kernel_rfl) (by kernel_rfl) (yields_rqv (.tmp 1) rfl B1 0 v2 rfl rfl (fun A hA => hA.1.all)) hS (fun a' ha => ?_)
                  simp only [Act.put, List.setIfInBounds_toArray, List.set_cons_succ, List.set_cons_zero] at ha
                  subst ha
                  refine MixH.take 7 2 _ (.int .i64 (a : Int)) rfl (by kernel_rfl) (by kernel_rfl) (by kernel_rfl) (by kernel_rfl) (yields_int (.tmp 83) rfl ⟨B1, 1, none⟩ (.int .i64 (a : Int)) rfl rfl (fun A hA => (RqvAt.cell hA.1 1).trans (by rw [← HV2A.out]; rfl))) hS (fun a' ha => ?_)
                  simp only [Act.put, List.setIfInBounds_toArray, List.set_cons_succ, List.set_cons_zero] at ha
                  subst ha
                  refine MixH.take 6 3 _ (.agg (rlA (⟨rc.c, 0, rc.la, rc.lc⟩))) rfl (by kernel_rfl) (by kernel_rfl) (by kernel_rfl) (by kernel_rfl) (yields_rlv (.tmp 7) rfl B3 0 (⟨rc.c, 0, rc.la, rc.lc⟩) rfl rfl (fun A hA => hA.2.all)) hS (fun a' ha => ?_)
                  simp only [Act.put, List.setIfInBounds_toArray, List.set_cons_succ, List.set_cons_zero] at ha
                  subst ha
                  refine MixH.take 5 7 _ (.int .i64 (a : Int)) rfl (by kernel_rfl) (by kernel_rfl) (by kernel_rfl) (by kernel_rfl) (yields_int (.tmp 88) rfl ⟨B1, 1, none⟩ (.int .i64 (a : Int)) rfl rfl (fun A hA => (RqvAt.cell hA.1 1).trans (by rw [← HV2A.out]; rfl))) hS (fun a' ha => ?_)
                  simp only [Act.put, List.setIfInBounds_toArray, List.set_cons_succ, List.set_cons_zero] at ha
                  subst ha
                  refine MixH.one [false, false, false, false, true] 4 4 _ rfl rfl (by kernel_rfl) (by kernel_rfl) (fun K hK => ?_)
                  simp only [Mix.pick]
                  go_wp2_with fail
                  refine Calls.mono (QP.out) ?_
                  rintro ep yp ⟨la, lc, rfl, s5, b5⟩
                  obtain ⟨v5, hv5⟩ : ∃ v5 : RQ, v5 = ⟨la, v2.n, lc, v2.at', v2.gv⟩ := ⟨_, rfl⟩
                  rw [← hv5]
                  have HP5 : Hid (RS yp v5 (rs1.set a (⟨rc.c, 0, rc.la, rc.lc⟩)) ∧ RqvAt yp B2 qz ∧ Below w.heap.size w yp ∧ v5.at' = v2.at' ∧ v5.gv = v2.gv) := by rw [hv5]; exact ⟨s5, HL2.out.z.below b5, HL2.out.b.trans (b5.mono HL2.out.b.size), rfl, rfl⟩
                  replace hS : RqvAt yp B1 v2 ∧ RlvAt yp B3 (⟨rc.c, 0, rc.la, rc.lc⟩) := ⟨hS.1.below b5, hS.2.below b5⟩
                  clear s5 b5 hv5
                  go_wp2_with fail
                  refine ⟨rfl, hK _ _ hS ?_⟩
                  clear hK K
                  refine MixH.one [false, false, false, false, false, false, false, false, true] 3 8 _ rfl rfl (by kernel_rfl) (by kernel_rfl) (fun K hK => ?_)
                  simp only [Mix.pick]
                  refine wpList_store_rqv (.tmp 2) (.tmp 86) rfl rfl B2 qz v5 rfl rfl HP5.out.2.1 rfl ?_
                  intro yq hq kq
                  have HQ5 : Hid (RqvAt yq B2 v5 ∧ RS yq v5 (rs1.set a (⟨rc.c, 0, rc.la, rc.lc⟩)) ∧ Below w.heap.size w yq) := ⟨hq, HP5.out.1.chq kq HP5.out.2.1, HP5.out.2.2.1.trans (kq.below (fun q hq' => by have := HO.out; omega) HP5.out.2.2.1.size)⟩
                  replace hS : RqvAt yq B1 v2 ∧ RlvAt yq B3 (⟨rc.c, 0, rc.la, rc.lc⟩) := ⟨hS.1.ch kq (by have := HO.out; omega), hS.2.ch kq (by have := HOL.out; omega)⟩
                  clear hq kq
                  refine ⟨rfl, hK _ _ hS ?_⟩
                  clear hK K
                  refine MixH.takes [false, false, false, false, false, false, false, false, false, true, true, true] 0 (by kernel_rfl) (by kernel_rfl) (by decide) (by kernel_rfl) hS (fun K hK => ?_)
                  simp only [Mix.pick]
                  repeat (go_big_quiet_step (fail))
                  refine wpQuiet_nil (hK _ ?_)
                  clear hK K
                  refine MixH.done (by kernel_rfl) ?_
                  clear hS QP
                  go_wp2_with fail
                  refine bodyPost_ret (results_rqv4 rfl _ _ B2 _ rfl HQ5.out.1) rfl ?_
                  refine ⟨v5, rs1.set a (⟨rc.c, 0, rc.la, rc.lc⟩), by rw [HYES.out.1, HYES.out.2, HAN.out]; rfl, HQ5.out.2.1, ?_, ?_, HQ5.out.2.2⟩
                  · unfold popQ
                    rw [HAN.out, HRUN.out.fin, if_pos rfl, csR_set, HI.out.2.2.2.1]
                    unfold popCs
                    rw [HGA.out, HCA.out, HFI.out.2.1]
                  · unfold popT
                    rw [HAN.out, HRUN.out.fin, if_pos rfl, HPD.out]
                    exact pop_rt HGRT.out (List.getElem?_eq_some_iff.1 HRR.out).1 HFI.out.2.2 HP5.out.2.2.2.1 HP5.out.2.2.2.2
              · have qml : ((ml : Int) == 0) = false := by simp; omega
                have hlc : ¬ r.lc = 1 := by have h1 := HCAP.out; have h2 := HMM.out; omega
                have HLNE : Hid (ml ≠ 0) := hml
                clear hml
                have c5 : ya.cell? ⟨B3, 5, none⟩ = some (.slice (some ⟨g2, off2, none⟩) m r.lc) := (HP.out.l.cell 5).trans (by rw [← HM.out, ← HLA.out]; rfl)
                have zzc := HP.out.l.fz 5
                obtain ⟨rc, hrc⟩ : ∃ rc : RL, rc = ⟨⟨r.c.li, L, r.c.tk⟩, d - x.2, some ⟨g2, off2 + 2, none⟩, (r.lc - 1)⟩ := ⟨_, rfl⟩
                have HQ : Hid (LB w wr B1 B2 B3 v2 rc (ya.setCell ⟨B3, 5, none⟩ (.slice (some ⟨g2, off2 + 2, none⟩) ml (r.lc - 1)))) := HP.out.set HOL.out 5 _ (by rw [hrc]; unfold rlA; rw [← HML.out]; rfl)
                obtain ⟨yc, hyc⟩ : ∃ y, ya.setCell ⟨B3, 5, none⟩ (.slice (some ⟨g2, off2 + 2, none⟩) ml (r.lc - 1)) = y := ⟨_, rfl⟩
                rw [hyc] at HQ
                have HWc : Hid (ya.setCell ⟨B3, 5, none⟩ (.slice (some ⟨g2, off2 + 2, none⟩) ml (r.lc - 1)) = yc) := hyc
                have HRC : Hid (rc = ⟨⟨r.c.li, L, r.c.tk⟩, d - x.2, some ⟨g2, off2 + 2, none⟩, (r.lc - 1)⟩) := hrc
                clear hyc hrc HP
                rename Hid (LB w wr B1 B2 B3 v2 rc yc) => HP
                go_upto_region 20 with fail
                rw [HWc.out]
                clear c5 zzc
                have e5 : yc.cell? ⟨B3, 5, none⟩ = some (.slice (some ⟨g2, off2 + 2, none⟩) ml (r.lc - 1)) := (HP.out.l.cell 5).trans (by rw [HRC.out, HML.out]; rfl)
                go_upto_region 22 with fail
                clear e5
                have HFI : Hid (RIt yc rc ∧ takeC r.c = rc.c ∧ rc.de = (if wtB L then d - x.2 else 0)) := by
                  refine ⟨⟨?_, ?_, ?_⟩, ?_, ?_⟩
                  · rw [HRC.out]
                    have h2 := ((HI.out.2.2.1.chq HP.out.k HI.out.1).it r (List.mem_of_getElem? HRR.out)).1
                    rw [HLA.out, HL.out] at h2
                    exact RIt.tail h2
                  · rw [HRC.out]
                    show L.length ≤ r.lc - 1
                    have := HCAP.out; have h4 := HML.out; have h5 := HMM.out; omega
                  · rw [HRC.out]
                    show r.lc - 1 ≤ maxLen
                    have := HCAP.out; omega
                  · rw [HTK.out, HRC.out]
                  · rw [HRC.out, if_pos]
                    unfold wtB
                    exact decide_eq_true (by have h4 := HML.out; have h5 := HLNE.out; omega)
                refine MixH.start (fun A => RqvAt A B1 v2 ∧ RlvAt A B3 (rc)) (by kernel_rfl) ?_
                obtain ⟨wL, hwA⟩ : ∃ W_, W_ = yc.drew := ⟨_, rfl⟩
                have bdr : Below yc.heap.size yc wL := by rw [hwA]; exact (Below.refl _ _).drew
                have HL2 : Hid (LB w wr B1 B2 B3 v2 (rc) wL) := HP.out.below bdr
                have hS : RqvAt wL B1 v2 ∧ RlvAt wL B3 (rc) := ⟨HL2.out.q, HL2.out.l⟩
                have HSL : Hid (RS wL v2 rs1) := (HI.out.2.2.1.chq HL2.out.k HI.out.1).turn (by rw [HV2.out]) (by rw [HV2.out]) (by rw [HV2.out])
                have QP : Hid _ := put_any v2 rs1 a (rc) wL HSL.out (List.getElem?_eq_some_iff.1 HRR.out).1 (HFI.out.1.below bdr)
                rw [← hwA]
                clear hwA bdr
                refine MixH.takes [false, true, false, false, false, true, true] 9 (by kernel_rfl) (by kernel_rfl) (by decide) (by kernel_rfl) hS (fun K hK => ?_)
                simp only [Mix.pick]
                repeat (go_big_quiet_step (fail))
                refine wpQuiet_nil (hK _ ?_)
                clear hK K
                refine MixH.take 8 0 _ (.agg (rqA v2)) rfl (by kernel_rfl) (by kernel_rfl) (by kernel_rfl) (by kernel_rfl) (yields_rqv (.tmp 1) rfl B1 0 v2 rfl rfl (fun A hA => hA.1.all)) hS (fun a' ha => ?_)
                simp only [Act.put, List.setIfInBounds_toArray, List.set_cons_succ, List.set_cons_zero] at ha
                subst ha
                refine MixH.take 7 2 _ (.int .i64 (a : Int)) rfl (by kernel_rfl) (by kernel_rfl) (by kernel_rfl) (by kernel_rfl) (yields_int (.tmp 83) rfl ⟨B1, 1, none⟩ (.int .i64 (a : Int)) rfl rfl (fun A hA => (RqvAt.cell hA.1 1).trans (by rw [← HV2A.out]; rfl))) hS (fun a' ha => ?_)
                simp only [Act.put, List.setIfInBounds_toArray, List.set_cons_succ, List.set_cons_zero] at ha
                subst ha
                refine MixH.take 6 3 _ (.agg (rlA (rc))) rfl (by kernel_rfl) (by kernel_rfl) (by kernel_rfl) (by kernel_rfl) (yields_rlv (.tmp 7) rfl B3 0 (rc) rfl rfl (fun A hA => hA.2.all)) hS (fun a' ha => ?_)
                simp only [Act.put, List.setIfInBounds_toArray, List.set_cons_succ, List.set_cons_zero] at ha
                subst ha
                refine MixH.take 5 7 _ (.int .i64 (a : Int)) rfl (by kernel_rfl) (by kernel_rfl) (by kernel_rfl) (by kernel_rfl) (yields_int (.tmp 88) rfl ⟨B1, 1, none⟩ (.int .i64 (a : Int)) rfl rfl (fun A hA => (RqvAt.cell hA.1 1).trans (by rw [← HV2A.out]; rfl))) hS (fun a' ha => ?_)
                simp only [Act.put, List.setIfInBounds_toArray, List.set_cons_succ, List.set_cons_zero] at ha
                subst ha
                refine MixH.one [false, false, false, false, true] 4 4 _ rfl rfl (by kernel_rfl) (by kernel_rfl) (fun K hK => ?_)
                simp only [Mix.pick]
                go_wp2_with fail
                refine Calls.mono (QP.out) ?_
                rintro ep yp ⟨la, lc, rfl, s5, b5⟩
                obtain ⟨v5, hv5⟩ : ∃ v5 : RQ, v5 = ⟨la, v2.n, lc, v2.at', v2.gv⟩ := ⟨_, rfl⟩
                rw [← hv5]
                have HP5 : Hid (RS yp v5 (rs1.set a (rc)) ∧ RqvAt yp B2 qz ∧ Below w.heap.size w yp ∧ v5.at' = v2.at' ∧ v5.gv = v2.gv) := by rw [hv5]; exact ⟨s5, HL2.out.z.below b5, HL2.out.b.trans (b5.mono HL2.out.b.size), rfl, rfl⟩
                replace hS : RqvAt yp B1 v2 ∧ RlvAt yp B3 (rc) := ⟨hS.1.below b5, hS.2.below b5⟩
                clear s5 b5 hv5
                go_wp2_with fail
                refine ⟨rfl, hK _ _ hS ?_⟩
                clear hK K
                refine MixH.one [false, false, false, false, false, false, false, false, true] 3 8 _ rfl rfl (by kernel_rfl) (by kernel_rfl) (fun K hK => ?_)
                simp only [Mix.pick]
                refine wpList_store_rqv (.tmp 2) (.tmp 86) rfl rfl B2 qz v5 rfl rfl HP5.out.2.1 rfl ?_
                intro yq hq kq
                have HQ5 : Hid (RqvAt yq B2 v5 ∧ RS yq v5 (rs1.set a (rc)) ∧ Below w.heap.size w yq) := ⟨hq, HP5.out.1.chq kq HP5.out.2.1, HP5.out.2.2.1.trans (kq.below (fun q hq' => by have := HO.out; omega) HP5.out.2.2.1.size)⟩
                replace hS : RqvAt yq B1 v2 ∧ RlvAt yq B3 (rc) := ⟨hS.1.ch kq (by have := HO.out; omega), hS.2.ch kq (by have := HOL.out; omega)⟩
                clear hq kq
                refine ⟨rfl, hK _ _ hS ?_⟩
                clear hK K
                refine MixH.takes [false, false, false, false, false, false, false, false, false, true, true, true] 0 (by kernel_rfl) (by kernel_rfl) (by decide) (by kernel_rfl) hS (fun K hK => ?_)
                simp only [Mix.pick]
                repeat (go_big_quiet_step (fail))
                refine wpQuiet_nil (hK _ ?_)
                clear hK K
                refine MixH.done (by kernel_rfl) ?_
                clear hS QP
                go_wp2_with fail
                refine bodyPost_ret (results_rqv4 rfl _ _ B2 _ rfl HQ5.out.1) rfl ?_
                refine ⟨v5, rs1.set a (rc), by rw [HYES.out.1, HYES.out.2, HAN.out]; rfl, HQ5.out.2.1, ?_, ?_, HQ5.out.2.2⟩
                · unfold popQ
                  rw [HAN.out, HRUN.out.fin, if_pos rfl, csR_set, HI.out.2.2.2.1]
                  unfold popCs
                  rw [HGA.out, HCA.out, HFI.out.2.1]
                · unfold popT
                  rw [HAN.out, HRUN.out.fin, if_pos rfl, HPD.out]
                  exact pop_rt HGRT.out (List.getElem?_eq_some_iff.1 HRR.out).1 HFI.out.2.2 HP5.out.2.2.2.1 HP5.out.2.2.2.2
end Go.Proofs.Ytcdbhkihbfjedaa
