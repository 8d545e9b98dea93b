/-
  Ip4Own: the walk.
-/
import Derived.Test.YtdinhgfkpjaipaaDoorI4Mark
import Derived.Test.YtdinhgfkpjaipaaDoorI4Start2
namespace Go.Proofs.YtdinhgfkpjaipaaDoor
open Go.RowKit
open I4 (H4)

/-- what is written, none where it is refused -/
def serL (h : H4) : List Nat := if I4.chk h = 0 then I4.ser h else []
theorem serL_of {w w' : World} {h : H4} {v : Value} (s : SerRes w h v w') : ∃ va, v = .slice va (serL h).length (serL h).length ∧ w'.ownsRow w.heap.size 5 1 (.slice va (serL h).length (serL h).length) (serL h).length ((toI (serL h)).map (Value.int .u8)) := by
  rcases s with ⟨h0, g, rfl, ho⟩ | ⟨hne, rfl⟩
  · have e : serL h = I4.ser h := by unfold serL; rw [if_pos h0]
    rw [e]
    exact ⟨_, rfl, ho⟩
  · have e : serL h = [] := by unfold serL; rw [if_neg hne]
    rw [e]
    exact ⟨none, rfl, World.ownsRow_nil _ _ _ _⟩
def putEr (l : List (Int × List Nat)) : Nat := if I4.putOk l then 0 else 65
theorem putL_of {w w' : World} {os : List OpV} {v : Value} {er : Int} (s : PutRes w os v er w') : er = (putEr (vals os) : Nat) ∧ ∃ va, v = .slice va (I4.putO (vals os)).length (I4.putO (vals os)).length ∧ w'.ownsRow w.heap.size 5 1 (.slice va (I4.putO (vals os)).length (I4.putO (vals os)).length) (I4.putO (vals os)).length ((toI (I4.putO (vals os))).map (Value.int .u8)) := by
  rcases s with ⟨h0, rfl, g, rfl, ho⟩ | ⟨hne, rfl, rfl⟩
  · exact ⟨by unfold putEr; rw [if_pos h0]; rfl, _, rfl, ho⟩
  · have e : I4.putO (vals os) = [] := by unfold I4.putO; rw [hne]; rfl
    rw [e]
    exact ⟨by unfold putEr; rw [hne]; rfl, none, rfl, World.ownsRow_nil _ _ _ _⟩
theorem serL_256 (h : H4) {w : World} {la : Option Addr} {ln lc : Nat} {os : List OpV} {da : Option Addr} {n c : Nat} (k : H4Ok w h la ln lc os da n c) : (∀ x ∈ serL h, x < 256) ∧ (serL h).length ≤ 65535 := by
  unfold serL
  split
  · rename_i h0
    have m := (I4.chk_zero h).1 h0
    exact ⟨ser_256 h m k.sx k.dx (by rw [k.hos]; exact opts_256 k.opts) k.d256, (I4.ser_taken h m).le⟩
  · exact ⟨(by intro x hx; cases hx), by simp⟩
theorem own_rng {w : World} {B : Nat} {e : TypeId} {s n m c : Nat} {a : Option Addr} {xs : List Value} (h : w.ownsRow B e s (.slice a n c) m xs) (lo hi : Nat) (k : ∀ x, a = some x → lo ≤ x.block ∧ x.block < hi) (q : Nat) (hq : (Value.slice a n c).ownBlock = some q) : lo ≤ q ∧ q < hi := by
  cases a with
  | none => simp [Value.ownBlock] at hq
  | some x =>
    simp [Value.ownBlock] at hq
    subst hq
    exact k x rfl
set_option maxHeartbeats 12800000 in
set_option maxRecDepth 100000 in
theorem ip4Own.walk (w : World) (hw : Wid w) (h : H4) (la : Option Addr) (ln lc : Nat) (os : List OpV) (da : Option Addr) (n c : Nat) (k : H4Ok w h la ln lc os da n c) (sm : H4Sm ln os n)
    (lb : Option Addr) (len cap : Nat) (qs : List OpV) (hql : qs.length = len) (hqo : OptsAt w lb qs) (hqn : len ≤ 1048576) :
    Calls Tryd.prog 8 #[.agg (h4C h (.slice la ln lc) (.slice da n c)), .slice lb len cap] w fun e w' => e = .returned (.bool true) ∧ Below w.heap.size w w' := by
  obtain ⟨W, hW⟩ : ∃ W, W = w.alloc (.cells (h4C h (.slice la ln lc) (.slice da n c)) 28) := ⟨_, rfl⟩
  obtain ⟨O, hO⟩ : ∃ O, O = w.heap.size := ⟨_, rfl⟩
  have bel : Below w.heap.size w W := by rw [hW]; exact (Below.refl _ _).alloc (Nat.le_refl _) _
  have HB : Hid (H4At W O h (.slice la ln lc) (.slice da n c)) := by rw [hW, hO]; exact h4At_new _ _ _ _
  obtain ⟨C, hC⟩ : ∃ C, C = h4C h (.slice la ln lc) (.slice da n c) := ⟨_, rfl⟩
  have HW : Hid (w.alloc (.cells C 28) = W) := by rw [hC]; exact hW.symm
  have HO : Hid (w.heap.size = O) := hO.symm
  rw [← hC]
  have HK : Hid (H4Ok w h la ln lc os da n c) := k
  have HSM : Hid (H4Sm ln os n) := sm
  have HWID : Hid (∀ A, Below w.heap.size w A → Wid A) := fun A hA => hw.old hA
  have QS : Hid _ := started_any W (hw.old bel)
  obtain ⟨E, hE⟩ : ∃ E, E = I4.chk h := ⟨_, rfl⟩
  obtain ⟨SL, hSL⟩ : ∃ SL, SL = serL h := ⟨_, rfl⟩
  obtain ⟨T, hT⟩ : ∃ T, T = SL.length := ⟨_, rfl⟩
  obtain ⟨F, hF⟩ : ∃ F, F = putEr (vals qs) := ⟨_, rfl⟩
  obtain ⟨PL, hPL⟩ : ∃ PL, PL = I4.putO (vals qs) := ⟨_, rfl⟩
  obtain ⟨U, hU⟩ : ∃ U, U = PL.length := ⟨_, rfl⟩
  have HTL : Hid (SL.length = T) := hT.symm
  have HUL : Hid (PL.length = U) := hU.symm
  have HS256 : Hid (∀ x ∈ SL, x < 256) := by rw [hSL]; exact (serL_256 h k).1
  have hTm : T ≤ 65535 := by rw [hT, hSL]; exact (serL_256 h k).2
  have HP256 : Hid (∀ x ∈ PL, x < 256) := by rw [hPL]; exact put_256 (vals qs) (opts_256 hqo)
  have hUm : U ≤ 40 := by rw [hU, hPL]; exact (I4.put_len (vals qs)).1
  have HSER : Hid (∀ A, Below w.heap.size w A → Calls Tryd.prog 18 #[.agg (h4C h (.slice la ln lc) (.slice da n c))] A fun e w' => ∃ va, e = .returned (.tuple #[.slice va T T, .int .i64 (E : Nat)]) ∧ Below A.heap.size A w' ∧ w'.ownsRow A.heap.size 5 1 (.slice va T T) T ((toI SL).map (Value.int .u8))) := fun A hA => (serialise_any h la ln lc os da n c A (hw.old hA) (k.old hA)).mono (by
    rintro e w' ⟨v, rfl, hb, hs⟩
    obtain ⟨va, rfl, ho⟩ := serL_of hs
    rw [hE, hT, hSL]
    exact ⟨va, rfl, hb, ho⟩)
  have HPUT : Hid (∀ A, Below w.heap.size w A → Calls Tryd.prog 31 #[.slice lb len cap] A fun e w' => ∃ va, e = .returned (.tuple #[.slice va U U, .int .i64 (F : Nat)]) ∧ Below A.heap.size A w' ∧ w'.ownsRow A.heap.size 5 1 (.slice va U U) U ((toI PL).map (Value.int .u8))) := fun A hA => (putOptions_any lb len cap qs A hql (hqo.old hA) (by omega)).mono (by
    rintro e w' ⟨v, er, rfl, hb, hs⟩
    obtain ⟨rfl, va, rfl, ho⟩ := putL_of hs
    rw [hF, hU, hPL]
    exact ⟨va, rfl, hb, ho⟩)
  clear hW hC hO k hw sm hE hSL hT hF hPL hU hql hqo hqn
  go_enter Tryd.func8, Tryd.ntmps8
  go_upto_region 1 with fail
  rw [HW.out, HO.out]
  go_wp2_with fail
  refine Calls.mono QS.out ?_
  rintro e w1 ⟨rfl, hb1⟩
  have bel1 := bthen bel hb1
  have HB1 : Hid (H4At w1 O h (.slice la ln lc) (.slice da n c)) := H4At.below HB.out hb1
  have QR : Hid _ := clone_any h la ln lc os da n c w1 (HK.out.old bel1) HSM.out.ln HSM.out.n HSM.out.d
  clear QS hb1 HB HW bel
  go_wp2_with (first | (refine wpList_load_h4 _ rfl O h (.slice la ln lc) (.slice da n c) rfl HB1.out rfl ?_))
  refine Calls.mono QR.out ?_
  rintro e w2 ⟨lx, mc, db, dc, rfl, hb2, ps, hk2⟩
  have bel2 := bthen bel1 hb2
  have HB2 : Hid (H4At w2 O h (.slice la ln lc) (.slice da n c)) := H4At.below HB1.out hb2
  clear QR hb2 HB1 bel1
  go_wp2_with (first | (refine wpList_alloc_h4 rfl rfl ?_) | (refine wpList_store_h4 (.tmp 6) (.tmp 27) rfl rfl w2.heap.size h4z h nilS nilS (.slice lx ln mc) (.slice db n dc) rfl rfl rfl rfl (h4At_new _ _ _ _) rfl ?_))
  intro w3 hP3 k3
  have sb3 := stored_below k3
  have bel3 := bthen bel2 sb3
  obtain ⟨O2, hO2⟩ : ∃ O2, O2 = w2.heap.size := ⟨_, rfl⟩
  rw [← hO2] at hP3 ⊢
  have HP3 : Hid (∀ A, Below w3.heap.size w3 A → H4At A O2 h (.slice lx ln mc) (.slice db n dc)) := fun A hA => H4At.below hP3 hA
  have HB3 : Hid (∀ A, Below w3.heap.size w3 A → H4At A O h (.slice la ln lc) (.slice da n c)) := fun A hA => H4At.below (H4At.below HB2.out sb3) hA
  have HK3 : Hid (∀ A, Below w3.heap.size w3 A → H4Ok A h lx ln mc ps db n dc) := fun A hA => (hk2.old sb3).old hA
  have BW : Hid (∀ A, Below w3.heap.size w3 A → Below w.heap.size w A) := fun A hA => bthen bel3 hA
  have S3 : Below w3.heap.size w3 w3 := Below.refl _ _
  clear hP3 k3 sb3 hO2 hk2 HB2 bel2
  go_wp2_with (first | (refine wpList_load_h4 _ rfl O h (.slice la ln lc) (.slice da n c) rfl (HB3.out w3 S3) rfl ?_))
  refine Calls.mono (HSER.out w3 (BW.out w3 S3)) ?_
  rintro e w4 ⟨va, rfl, hb, ho⟩
  have Sw4 : Below w3.heap.size w3 w4 := bthen S3 hb
  have HRaw4 : Hid (w4.ownsRow w3.heap.size 5 1 (.slice va T T) T ((toI SL).map (Value.int .u8))) := ho
  have RGa : Hid (∀ x, va = some x → w3.heap.size ≤ x.block ∧ x.block < w4.heap.size) := fun x hx => own_blk ho x hx
  have SZw4 : w3.heap.size ≤ w4.heap.size := hb.size
  clear ho hb 
  go_wp2_with (first | (refine wpList_load_h4 _ rfl O h (.slice la ln lc) (.slice da n c) rfl (HB3.out w4 Sw4) rfl ?_))
  refine Calls.mono (HSER.out w4 (BW.out w4 Sw4)) ?_
  rintro e w5 ⟨vb, rfl, hb, ho⟩
  have Sw5 : Below w3.heap.size w3 w5 := bthen Sw4 hb
  have HRaw5 : Hid (w5.ownsRow w3.heap.size 5 1 (.slice va T T) T ((toI SL).map (Value.int .u8))) := owns_below HRaw4.out hb
  have HRbw5 : Hid (w5.ownsRow w4.heap.size 5 1 (.slice vb T T) T ((toI SL).map (Value.int .u8))) := ho
  have RGb : Hid (∀ x, vb = some x → w4.heap.size ≤ x.block ∧ x.block < w5.heap.size) := fun x hx => own_blk ho x hx
  have SZw5 : w4.heap.size ≤ w5.heap.size := hb.size
  clear ho hb HRaw4
  go_wp2_with fail
  refine Calls.mono (HPUT.out w5 (BW.out w5 Sw5)) ?_
  rintro e w6 ⟨vc, rfl, hb, ho⟩
  have Sw6 : Below w3.heap.size w3 w6 := bthen Sw5 hb
  have HRaw6 : Hid (w6.ownsRow w3.heap.size 5 1 (.slice va T T) T ((toI SL).map (Value.int .u8))) := owns_below HRaw5.out hb
  have HRbw6 : Hid (w6.ownsRow w4.heap.size 5 1 (.slice vb T T) T ((toI SL).map (Value.int .u8))) := owns_below HRbw5.out hb
  have HRcw6 : Hid (w6.ownsRow w5.heap.size 5 1 (.slice vc U U) U ((toI PL).map (Value.int .u8))) := ho
  have RGc : Hid (∀ x, vc = some x → w5.heap.size ≤ x.block ∧ x.block < w6.heap.size) := fun x hx => own_blk ho x hx
  have SZw6 : w5.heap.size ≤ w6.heap.size := hb.size
  clear ho hb HRaw5 HRbw5
  go_wp2_with fail
  refine Calls.mono (HPUT.out w6 (BW.out w6 Sw6)) ?_
  rintro e w7 ⟨vd, rfl, hb, ho⟩
  have Sw7 : Below w3.heap.size w3 w7 := bthen Sw6 hb
  have HRaw7 : Hid (w7.ownsRow w3.heap.size 5 1 (.slice va T T) T ((toI SL).map (Value.int .u8))) := owns_below HRaw6.out hb
  have HRbw7 : Hid (w7.ownsRow w4.heap.size 5 1 (.slice vb T T) T ((toI SL).map (Value.int .u8))) := owns_below HRbw6.out hb
  have HRcw7 : Hid (w7.ownsRow w5.heap.size 5 1 (.slice vc U U) U ((toI PL).map (Value.int .u8))) := owns_below HRcw6.out hb
  have HRdw7 : Hid (w7.ownsRow w6.heap.size 5 1 (.slice vd U U) U ((toI PL).map (Value.int .u8))) := ho
  have RGd : Hid (∀ x, vd = some x → w6.heap.size ≤ x.block ∧ x.block < w7.heap.size) := fun x hx => own_blk ho x hx
  have SZw7 : w6.heap.size ≤ w7.heap.size := hb.size
  clear ho hb HRaw6 HRbw6 HRcw6
  have QC : Hid _ := copied_any va T T SL w7 HTL.out (owns_at HRaw7.out).1 (by omega)
  go_wp2_with fail
  refine Calls.mono QC.out ?_
  rintro e w8 ⟨vp, rfl, ho, hb⟩
  obtain ⟨vp, cp, rfl⟩ := owns_shape ho
  clear QC
  have Sw8 : Below w3.heap.size w3 w8 := bthen Sw7 hb
  have HRaw8 : Hid (w8.ownsRow w3.heap.size 5 1 (.slice va T T) T ((toI SL).map (Value.int .u8))) := owns_below HRaw7.out hb
  have HRbw8 : Hid (w8.ownsRow w4.heap.size 5 1 (.slice vb T T) T ((toI SL).map (Value.int .u8))) := owns_below HRbw7.out hb
  have HRcw8 : Hid (w8.ownsRow w5.heap.size 5 1 (.slice vc U U) U ((toI PL).map (Value.int .u8))) := owns_below HRcw7.out hb
  have HRdw8 : Hid (w8.ownsRow w6.heap.size 5 1 (.slice vd U U) U ((toI PL).map (Value.int .u8))) := owns_below HRdw7.out hb
  have HRpw8 : Hid (w8.ownsRow w7.heap.size 5 1 (.slice vp T cp) T ((toI SL).map (Value.int .u8))) := ho
  have RGp : Hid (∀ x, vp = some x → w7.heap.size ≤ x.block ∧ x.block < w8.heap.size) := fun x hx => own_blk ho x hx
  have SZw8 : w7.heap.size ≤ w8.heap.size := hb.size
  clear ho hb HRaw7 HRbw7 HRcw7 HRdw7
  have QC : Hid _ := copied_any vc U U PL w8 HUL.out (owns_at HRcw8.out).1 (by omega)
  go_wp2_with fail
  refine Calls.mono QC.out ?_
  rintro e w9 ⟨vr, rfl, ho, hb⟩
  obtain ⟨vr, cr, rfl⟩ := owns_shape ho
  clear QC
  have Sw9 : Below w3.heap.size w3 w9 := bthen Sw8 hb
  have HRaw9 : Hid (w9.ownsRow w3.heap.size 5 1 (.slice va T T) T ((toI SL).map (Value.int .u8))) := owns_below HRaw8.out hb
  have HRbw9 : Hid (w9.ownsRow w4.heap.size 5 1 (.slice vb T T) T ((toI SL).map (Value.int .u8))) := owns_below HRbw8.out hb
  have HRcw9 : Hid (w9.ownsRow w5.heap.size 5 1 (.slice vc U U) U ((toI PL).map (Value.int .u8))) := owns_below HRcw8.out hb
  have HRdw9 : Hid (w9.ownsRow w6.heap.size 5 1 (.slice vd U U) U ((toI PL).map (Value.int .u8))) := owns_below HRdw8.out hb
  have HRpw9 : Hid (w9.ownsRow w7.heap.size 5 1 (.slice vp T cp) T ((toI SL).map (Value.int .u8))) := owns_below HRpw8.out hb
  have HRrw9 : Hid (w9.ownsRow w8.heap.size 5 1 (.slice vr U cr) U ((toI PL).map (Value.int .u8))) := ho
  have RGr : Hid (∀ x, vr = some x → w8.heap.size ≤ x.block ∧ x.block < w9.heap.size) := fun x hx => own_blk ho x hx
  have SZw9 : w8.heap.size ≤ w9.heap.size := hb.size
  clear ho hb HRaw8 HRbw8 HRcw8 HRdw8 HRpw8
  have QM : Hid _ := marked_any w3.heap.size va T 11 SL w9 HRaw9.out (by omega) (by decide)
  go_wp2_with fail
  refine Calls.mono QM.out ?_
  rintro e w10 ⟨Xa, Pa, rfl, hmk, hnw, hch⟩
  have hrg : ∀ q, (Value.slice va T T).ownBlock = some q → w3.heap.size ≤ q ∧ q < w4.heap.size := fun q hq => own_rng HRaw9.out _ _ RGa.out q hq
  have Sw10 : Below w3.heap.size w3 w10 := Sw9.trans (hch.below (fun q hq => by have h1 := hrg q hq; omega) Sw9.size)
  have HRbw10 : Hid (w10.ownsRow w4.heap.size 5 1 (.slice vb T T) T ((toI SL).map (Value.int .u8))) := hch.owns HRbw9.out (fun q hq e => by have h1 := hrg q e; have h2 := own_rng HRbw9.out _ _ RGb.out q hq; omega)
  have HRcw10 : Hid (w10.ownsRow w5.heap.size 5 1 (.slice vc U U) U ((toI PL).map (Value.int .u8))) := hch.owns HRcw9.out (fun q hq e => by have h1 := hrg q e; have h2 := own_rng HRcw9.out _ _ RGc.out q hq; omega)
  have HRdw10 : Hid (w10.ownsRow w6.heap.size 5 1 (.slice vd U U) U ((toI PL).map (Value.int .u8))) := hch.owns HRdw9.out (fun q hq e => by have h1 := hrg q e; have h2 := own_rng HRdw9.out _ _ RGd.out q hq; omega)
  have HRpw10 : Hid (w10.ownsRow w7.heap.size 5 1 (.slice vp T cp) T ((toI SL).map (Value.int .u8))) := hch.owns HRpw9.out (fun q hq e => by have h1 := hrg q e; have h2 := own_rng HRpw9.out _ _ RGp.out q hq; omega)
  have HRrw10 : Hid (w10.ownsRow w8.heap.size 5 1 (.slice vr U cr) U ((toI PL).map (Value.int .u8))) := hch.owns HRrw9.out (fun q hq e => by have h1 := hrg q e; have h2 := own_rng HRrw9.out _ _ RGr.out q hq; omega)
  have HMaw10 : Hid (Marks w10 Xa 11 Pa) := hmk
  have HNa : Hid (MNew w9.heap.size Xa va Pa) := hnw
  have SZw10 : w9.heap.size ≤ w10.heap.size := hch.size
  clear QM hmk hnw hch hrg HRaw9 HRbw9 HRcw9 HRdw9 HRpw9 HRrw9
  have QM : Hid _ := marked_any w5.heap.size vc U 12 PL w10 HRcw10.out (by omega) (by decide)
  go_wp2_with fail
  refine Calls.mono QM.out ?_
  rintro e w11 ⟨Xc, Pc, rfl, hmk, hnw, hch⟩
  have hrg : ∀ q, (Value.slice vc U U).ownBlock = some q → w5.heap.size ≤ q ∧ q < w6.heap.size := fun q hq => own_rng HRcw10.out _ _ RGc.out q hq
  have Sw11 : Below w3.heap.size w3 w11 := Sw10.trans (hch.below (fun q hq => by have h1 := hrg q hq; omega) Sw10.size)
  have HRbw11 : Hid (w11.ownsRow w4.heap.size 5 1 (.slice vb T T) T ((toI SL).map (Value.int .u8))) := hch.owns HRbw10.out (fun q hq e => by have h1 := hrg q e; have h2 := own_rng HRbw10.out _ _ RGb.out q hq; omega)
  have HRdw11 : Hid (w11.ownsRow w6.heap.size 5 1 (.slice vd U U) U ((toI PL).map (Value.int .u8))) := hch.owns HRdw10.out (fun q hq e => by have h1 := hrg q e; have h2 := own_rng HRdw10.out _ _ RGd.out q hq; omega)
  have HRpw11 : Hid (w11.ownsRow w7.heap.size 5 1 (.slice vp T cp) T ((toI SL).map (Value.int .u8))) := hch.owns HRpw10.out (fun q hq e => by have h1 := hrg q e; have h2 := own_rng HRpw10.out _ _ RGp.out q hq; omega)
  have HRrw11 : Hid (w11.ownsRow w8.heap.size 5 1 (.slice vr U cr) U ((toI PL).map (Value.int .u8))) := hch.owns HRrw10.out (fun q hq e => by have h1 := hrg q e; have h2 := own_rng HRrw10.out _ _ RGr.out q hq; omega)
  have HMaw11 : Hid (Marks w11 Xa 11 Pa) := HMaw10.out.ch hch HNa.out (fun q hq e => by have h1 := hrg q e; omega) (fun z hz e => by have h1 := hrg _ e; have h2 := RGa.out z hz; omega)
  have HMcw11 : Hid (Marks w11 Xc 12 Pc) := hmk
  have HNc : Hid (MNew w10.heap.size Xc vc Pc) := hnw
  have SZw11 : w10.heap.size ≤ w11.heap.size := hch.size
  clear QM hmk hnw hch hrg HRbw10 HRcw10 HRdw10 HRpw10 HRrw10 HMaw10
  have QA : Hid _ := alike_any vb vp T T T cp SL SL w11 HTL.out HTL.out (owns_at HRbw11.out).1 (owns_at HRpw11.out).1 HS256.out HS256.out
  rw [decide_eq_true rfl] at QA
  go_wp2_with fail
  refine Calls.mono QA.out ?_
  rintro e wN ⟨rfl, rfl⟩
  clear QA
  have QA : Hid _ := alike_any vd vr U U U cr PL PL w11 HUL.out HUL.out (owns_at HRdw11.out).1 (owns_at HRrw11.out).1 HP256.out HP256.out
  rw [decide_eq_true rfl] at QA
  go_wp2_with fail
  refine Calls.mono QA.out ?_
  rintro e wN ⟨rfl, rfl⟩
  clear QA
  have hh := HK3.out w11 Sw11
  have QM : Hid _ := same_true h la lx da db ln lc mc n c dc os ps h.data w11 (HK.out.old (BW.out w11 Sw11)).opts hh.opts HK.out.ol (HK.out.hos.symm.trans hh.hos) HK.out.on HK.out.dl (HK.out.old (BW.out w11 Sw11)).seg hh.seg HK.out.d256
  clear hh
  go_wp2_with (first | (refine wpList_load_h4 _ rfl O h (.slice la ln lc) (.slice da n c) rfl (HB3.out w11 Sw11) rfl ?_) | (refine wpList_load_h4 _ rfl O2 h (.slice lx ln mc) (.slice db n dc) rfl (HP3.out w11 Sw11) rfl ?_))
  refine Calls.mono QM.out ?_
  rintro e w12 ⟨rfl, hb⟩
  have Sw12 : Below w3.heap.size w3 w12 := bthen Sw11 hb
  have HRbw12 : Hid (w12.ownsRow w4.heap.size 5 1 (.slice vb T T) T ((toI SL).map (Value.int .u8))) := owns_below HRbw11.out hb
  have HRdw12 : Hid (w12.ownsRow w6.heap.size 5 1 (.slice vd U U) U ((toI PL).map (Value.int .u8))) := owns_below HRdw11.out hb
  have HRpw12 : Hid (w12.ownsRow w7.heap.size 5 1 (.slice vp T cp) T ((toI SL).map (Value.int .u8))) := owns_below HRpw11.out hb
  have HRrw12 : Hid (w12.ownsRow w8.heap.size 5 1 (.slice vr U cr) U ((toI PL).map (Value.int .u8))) := owns_below HRrw11.out hb
  have HMaw12 : Hid (Marks w12 Xa 11 Pa) := HMaw11.out.below hb
  have HMcw12 : Hid (Marks w12 Xc 12 Pc) := HMcw11.out.below hb
  have SZw12 : w11.heap.size ≤ w12.heap.size := hb.size
  clear QM hb HRbw11 HRdw11 HRpw11 HRrw11 HMaw11 HMcw11
  have QM : Hid _ := marked_any w4.heap.size vb T 13 SL w12 HRbw12.out (by omega) (by decide)
  go_wp2_with fail
  refine Calls.mono QM.out ?_
  rintro e w13 ⟨Xb, Pb, rfl, hmk, hnw, hch⟩
  have hrg : ∀ q, (Value.slice vb T T).ownBlock = some q → w4.heap.size ≤ q ∧ q < w5.heap.size := fun q hq => own_rng HRbw12.out _ _ RGb.out q hq
  have Sw13 : Below w3.heap.size w3 w13 := Sw12.trans (hch.below (fun q hq => by have h1 := hrg q hq; omega) Sw12.size)
  have HRdw13 : Hid (w13.ownsRow w6.heap.size 5 1 (.slice vd U U) U ((toI PL).map (Value.int .u8))) := hch.owns HRdw12.out (fun q hq e => by have h1 := hrg q e; have h2 := own_rng HRdw12.out _ _ RGd.out q hq; omega)
  have HRpw13 : Hid (w13.ownsRow w7.heap.size 5 1 (.slice vp T cp) T ((toI SL).map (Value.int .u8))) := hch.owns HRpw12.out (fun q hq e => by have h1 := hrg q e; have h2 := own_rng HRpw12.out _ _ RGp.out q hq; omega)
  have HRrw13 : Hid (w13.ownsRow w8.heap.size 5 1 (.slice vr U cr) U ((toI PL).map (Value.int .u8))) := hch.owns HRrw12.out (fun q hq e => by have h1 := hrg q e; have h2 := own_rng HRrw12.out _ _ RGr.out q hq; omega)
  have HMaw13 : Hid (Marks w13 Xa 11 Pa) := HMaw12.out.ch hch HNa.out (fun q hq e => by have h1 := hrg q e; omega) (fun z hz e => by have h1 := hrg _ e; have h2 := RGa.out z hz; omega)
  have HMcw13 : Hid (Marks w13 Xc 12 Pc) := HMcw12.out.ch hch HNc.out (fun q hq e => by have h1 := hrg q e; omega) (fun z hz e => by have h1 := hrg _ e; have h2 := RGc.out z hz; omega)
  have HMbw13 : Hid (Marks w13 Xb 13 Pb) := hmk
  have HNb : Hid (MNew w12.heap.size Xb vb Pb) := hnw
  have SZw13 : w12.heap.size ≤ w13.heap.size := hch.size
  clear QM hmk hnw hch hrg HRbw12 HRdw12 HRpw12 HRrw12 HMaw12 HMcw12
  have QM : Hid _ := marked_any w6.heap.size vd U 14 PL w13 HRdw13.out (by omega) (by decide)
  go_wp2_with fail
  refine Calls.mono QM.out ?_
  rintro e w14 ⟨Xd, Pd, rfl, hmk, hnw, hch⟩
  have hrg : ∀ q, (Value.slice vd U U).ownBlock = some q → w6.heap.size ≤ q ∧ q < w7.heap.size := fun q hq => own_rng HRdw13.out _ _ RGd.out q hq
  have Sw14 : Below w3.heap.size w3 w14 := Sw13.trans (hch.below (fun q hq => by have h1 := hrg q hq; omega) Sw13.size)
  have HRpw14 : Hid (w14.ownsRow w7.heap.size 5 1 (.slice vp T cp) T ((toI SL).map (Value.int .u8))) := hch.owns HRpw13.out (fun q hq e => by have h1 := hrg q e; have h2 := own_rng HRpw13.out _ _ RGp.out q hq; omega)
  have HRrw14 : Hid (w14.ownsRow w8.heap.size 5 1 (.slice vr U cr) U ((toI PL).map (Value.int .u8))) := hch.owns HRrw13.out (fun q hq e => by have h1 := hrg q e; have h2 := own_rng HRrw13.out _ _ RGr.out q hq; omega)
  have HMaw14 : Hid (Marks w14 Xa 11 Pa) := HMaw13.out.ch hch HNa.out (fun q hq e => by have h1 := hrg q e; omega) (fun z hz e => by have h1 := hrg _ e; have h2 := RGa.out z hz; omega)
  have HMcw14 : Hid (Marks w14 Xc 12 Pc) := HMcw13.out.ch hch HNc.out (fun q hq e => by have h1 := hrg q e; omega) (fun z hz e => by have h1 := hrg _ e; have h2 := RGc.out z hz; omega)
  have HMbw14 : Hid (Marks w14 Xb 13 Pb) := HMbw13.out.ch hch HNb.out (fun q hq e => by have h1 := hrg q e; omega) (fun z hz e => by have h1 := hrg _ e; have h2 := RGb.out z hz; omega)
  have HMdw14 : Hid (Marks w14 Xd 14 Pd) := hmk
  have HNd : Hid (MNew w13.heap.size Xd vd Pd) := hnw
  have SZw14 : w13.heap.size ≤ w14.heap.size := hch.size
  clear QM hmk hnw hch hrg HRdw13 HRpw13 HRrw13 HMaw13 HMcw13 HMbw13
  go_wp2_with (first | (refine wpList_load_h4 _ rfl O h (.slice la ln lc) (.slice da n c) rfl (HB3.out w14 Sw14) rfl ?_))
  refine Calls.mono (HSER.out w14 (BW.out w14 Sw14)) ?_
  rintro e w15 ⟨vg, rfl, hb, ho⟩
  have Sw15 : Below w3.heap.size w3 w15 := bthen Sw14 hb
  have HRpw15 : Hid (w15.ownsRow w7.heap.size 5 1 (.slice vp T cp) T ((toI SL).map (Value.int .u8))) := owns_below HRpw14.out hb
  have HRrw15 : Hid (w15.ownsRow w8.heap.size 5 1 (.slice vr U cr) U ((toI PL).map (Value.int .u8))) := owns_below HRrw14.out hb
  have HMaw15 : Hid (Marks w15 Xa 11 Pa) := HMaw14.out.below hb
  have HMcw15 : Hid (Marks w15 Xc 12 Pc) := HMcw14.out.below hb
  have HMbw15 : Hid (Marks w15 Xb 13 Pb) := HMbw14.out.below hb
  have HMdw15 : Hid (Marks w15 Xd 14 Pd) := HMdw14.out.below hb
  have HRgw15 : Hid (w15.ownsRow w14.heap.size 5 1 (.slice vg T T) T ((toI SL).map (Value.int .u8))) := ho
  have RGg : Hid (∀ x, vg = some x → w14.heap.size ≤ x.block ∧ x.block < w15.heap.size) := fun x hx => own_blk ho x hx
  have SZw15 : w14.heap.size ≤ w15.heap.size := hb.size
  clear ho hb HRpw14 HRrw14 HMaw14 HMcw14 HMbw14 HMdw14
  go_wp2_with fail
  refine Calls.mono (HPUT.out w15 (BW.out w15 Sw15)) ?_
  rintro e w16 ⟨vk, rfl, hb, ho⟩
  have Sw16 : Below w3.heap.size w3 w16 := bthen Sw15 hb
  have HRpw16 : Hid (w16.ownsRow w7.heap.size 5 1 (.slice vp T cp) T ((toI SL).map (Value.int .u8))) := owns_below HRpw15.out hb
  have HRrw16 : Hid (w16.ownsRow w8.heap.size 5 1 (.slice vr U cr) U ((toI PL).map (Value.int .u8))) := owns_below HRrw15.out hb
  have HRgw16 : Hid (w16.ownsRow w14.heap.size 5 1 (.slice vg T T) T ((toI SL).map (Value.int .u8))) := owns_below HRgw15.out hb
  have HMaw16 : Hid (Marks w16 Xa 11 Pa) := HMaw15.out.below hb
  have HMcw16 : Hid (Marks w16 Xc 12 Pc) := HMcw15.out.below hb
  have HMbw16 : Hid (Marks w16 Xb 13 Pb) := HMbw15.out.below hb
  have HMdw16 : Hid (Marks w16 Xd 14 Pd) := HMdw15.out.below hb
  have HRkw16 : Hid (w16.ownsRow w15.heap.size 5 1 (.slice vk U U) U ((toI PL).map (Value.int .u8))) := ho
  have RGk : Hid (∀ x, vk = some x → w15.heap.size ≤ x.block ∧ x.block < w16.heap.size) := fun x hx => own_blk ho x hx
  have SZw16 : w15.heap.size ≤ w16.heap.size := hb.size
  clear ho hb HRpw15 HRrw15 HRgw15 HMaw15 HMcw15 HMbw15 HMdw15
  have eE : ((E : Int) == (E : Int)) = true := by simp
  have eF : ((F : Int) == (F : Int)) = true := by simp
  go_wp2_with fail
  refine Calls.mono (num_any E w16) ?_
  rintro e wN ⟨rfl, rfl⟩
  go_wp2_with fail
  refine Calls.mono (num_any E w16) ?_
  rintro e wN ⟨rfl, rfl⟩
  go_wp2_with fail
  refine Calls.mono (num_any F w16) ?_
  rintro e wN ⟨rfl, rfl⟩
  go_wp2_with fail
  refine Calls.mono (num_any F w16) ?_
  rintro e wN ⟨rfl, rfl⟩
  have QA : Hid _ := alike_any vg vp T T T cp SL SL w16 HTL.out HTL.out (owns_at HRgw16.out).1 (owns_at HRpw16.out).1 HS256.out HS256.out
  rw [decide_eq_true rfl] at QA
  go_wp2_with fail
  refine Calls.mono QA.out ?_
  rintro e wN ⟨rfl, rfl⟩
  clear QA
  have QA : Hid _ := alike_any vk vr U U U cr PL PL w16 HUL.out HUL.out (owns_at HRkw16.out).1 (owns_at HRrw16.out).1 HP256.out HP256.out
  rw [decide_eq_true rfl] at QA
  go_wp2_with fail
  refine Calls.mono QA.out ?_
  rintro e wN ⟨rfl, rfl⟩
  clear QA
  go_wp2_with fail
  refine Calls.mono (holds_any Xa 11 Pa w16 HMaw16.out) ?_
  rintro e wN ⟨rfl, rfl⟩
  go_wp2_with fail
  refine Calls.mono (holds_any Xc 12 Pc w16 HMcw16.out) ?_
  rintro e wN ⟨rfl, rfl⟩
  go_wp2_with fail
  refine Calls.mono (holds_any Xb 13 Pb w16 HMbw16.out) ?_
  rintro e wN ⟨rfl, rfl⟩
  go_wp2_with fail
  refine Calls.mono (holds_any Xd 14 Pd w16 HMdw16.out) ?_
  rintro e wN ⟨rfl, rfl⟩
  go_wp2
  go_ret
  exact ⟨rfl, BW.out w16 Sw16⟩
end Go.Proofs.YtdinhgfkpjaipaaDoor
