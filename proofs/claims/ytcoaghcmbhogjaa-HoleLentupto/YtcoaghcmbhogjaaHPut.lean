/-
  Package hole: Put, of a piece that is taken.
-/
import Derived.Test.YtcoaghcmbhogjaaHPut0
namespace Go.Proofs.Ytcoaghcmbhogjaa
open Go.RowKit Go.Maps
namespace H11

structure P5 (w : World) (H : Nat) (v : HV) (B : Nat) (P : Array Value) (wi : World) (si : HS) (vi : HV) : Prop where
  hat : HAt wi H si vi
  kk : ∀ x, HB H vi x → HB H v x ∨ B + 2 ≤ x
  ch : Ch (HB H v) w wi
  pc : PcAt wi (B + 1) P
  ft : FtAt wi B ftz
theorem P5.below {w : World} {H : Nat} {v : HV} {B : Nat} {P : Array Value} {wi w' : World} {si : HS} {vi : HV} (h : P5 w H v B P wi si vi) (hb : Below wi.heap.size wi w') : P5 w H v B P w' si vi :=
  ⟨h.hat.below hb, h.kk, h.ch.trans (Ch.ofBelow (S := fun _ => False) hb) (fun _ _ e => e.elim), h.pc.below hb, h.ft.below hb⟩
theorem P5.moved {w : World} {H : Nat} {v : HV} {B : Nat} {P : Array Value} {wi w' : World} {si s' : HS} {vi : HV} {s0 : HS} (h : P5 w H v B P wi si vi) (h0 : HAt w H s0 v) (hB : w.heap.size = B) (m : Moved wi H vi w' s') : ∃ v', P5 w H v B P w' s' v' := by
  obtain ⟨v', h1, h2, h3⟩ := m
  have nB : ∀ x, HB H vi x → x < B ∨ B + 2 ≤ x := by
    intro x hx
    rcases h.kk x hx with k | k
    · have := h0.lt x k; exact .inl (by omega)
    · exact .inr k
  have hsz := h.pc.lt
  refine ⟨v', h1, ?_, h.ch.trans h3 ?_, h.pc.ch h3 ?_, h.ft.ch h3 ?_⟩
  · intro x hx
    rcases h2 x hx with k | k
    · exact h.kk x k
    · exact .inr (by omega)
  · intro x hlt hx
    rcases h.kk x hx with k | k
    · exact k
    · omega
  · intro k
    have := nB _ k
    omega
  · intro k
    have := nB _ k
    omega
theorem P5.fin {w : World} {H : Nat} {v : HV} {B : Nat} {P : Array Value} {wi w' : World} {si : HS} {vi : HV} {s0 : HS} (h : P5 w H v B P wi si vi) (h0 : HAt w H s0 v) (hB : w.heap.size = B) (k : Ch (fun q => q = B) wi w') : Moved w H v w' si := by
  refine ⟨vi, h.hat.ch k ?_, ?_, h.ch.trans k ?_⟩
  · intro x hx e
    have e' : x = B := e
    rcases h.kk x hx with k | k
    · have := h0.lt x k; omega
    · omega
  · intro x hx
    rcases h.kk x hx with k | k
    · exact .inl k
    · exact .inr (by omega)
  · intro x hlt e
    have e' : x = B := e
    omega
/-- what the map gives for a piece -/
theorem HAt.has {w : World} {H : Nat} {s : HS} {v : HV} (h : HAt w H s v) {o n : Nat} {more : Bool} {kl : Lit} (hk : keyOf Try.prog 78 (kv o n more) = some kl) : Maps.has v.D kl = decide ((o, n, more) ∈ s.tk) := by
  by_cases c : (o, n, more) ∈ s.tk
  · rw [decide_eq_true c]; exact (h.hs o n more kl hk).2 c
  · rw [decide_eq_false c]
    cases e : Maps.has v.D kl with
    | false => rfl
    | true => exact absurd ((h.hs o n more kl hk).1 e) c

set_option maxRecDepth 100000 in
set_option maxHeartbeats 12800000 in
theorem put_yes (w : World) (H : Nat) (s : HS) (v : HV) (h : HAt w H s v) (hi : Inv s) (d : List Nat) (da : Option Addr) (c : Nat) (more : Bool) (h256 : ∀ x ∈ d, x < 256) (htk : s.tk.length ≤ 1000000) (hcn : d.length ≤ c) (hseg : Seg .u8 w da (toI d)) (hdn : ∀ x, da = some x → ¬ HB H v x.block)
    (o : Nat) (hok : Ok s o d.length more) (hr : rf s o d.length more = 0) :
    Calls Try.prog 13 #[.pointer (some ⟨H, 0, none⟩), .int .i64 (o : Int), .slice da d.length c, .bool more] w fun r w' => r = .returned (.tuple #[.agg #[.int .i64 (fN o (o + d.length) s.gp : Nat), .int .i64 ((d.length : Int) - (fN o (o + d.length) s.gp : Nat)), .bool (decide ((o, d.length, more) ∈ s.tk) && decide (d = ((pt s o d more).bs.drop o).take d.length))], .int .i64 0]) ∧ Moved w H v w' (pt s o d more) := by
  obtain ⟨n, hn⟩ : ∃ n, n = d.length := ⟨_, rfl⟩
  rw [← hn]
  obtain ⟨P, hP⟩ : ∃ P : Array Value, P = #[.int .i64 (o : Int), .int .i64 (n : Int), .bool more] := ⟨_, rfl⟩
  obtain ⟨B, hB⟩ : ∃ B, B = w.heap.size := ⟨_, rfl⟩
  obtain ⟨W, hW⟩ : ∃ W, W = (w.alloc (.cells #[.int .i64 0, .int .i64 0, .bool false] 33)).alloc (.cells #[.int .i64 (o : Int), .int .i64 (n : Int), .bool more] 78) := ⟨_, rfl⟩
  have hb1 : Below w.heap.size w (w.alloc (.cells #[.int .i64 0, .int .i64 0, .bool false] 33)) := (Below.refl _ _).alloc (Nat.le_refl _) _
  have hb : Below w.heap.size w W := by rw [hW]; exact hb1.alloc hb1.size _
  have hs1 : (w.alloc (.cells #[.int .i64 0, .int .i64 0, .bool false] 33)).heap.size = B + 1 := by rw [hB]; simp
  have hPc : PcAt W (B + 1) P := by
    rw [hW, ← hs1, hP]
    exact PcAt_new _ _
  have hFt : FtAt W B ftz := by
    rw [hW, hB]
    exact FtAt.below (FtAt_new _ _) ((Below.refl _ _).alloc (Nat.le_refl _) _)
  have HWW : Hid ((w.alloc (.cells #[.int .i64 0, .int .i64 0, .bool false] 33)).alloc (.cells #[.int .i64 (o : Int), .int .i64 (n : Int), .bool more] 78) = W) := hW.symm
  have HBB : Hid (w.heap.size = B) := hB.symm
  have HP3 : Hid (P.size = 3) := by rw [hP]; rfl
  have HP : Hid (P = #[.int .i64 (o : Int), .int .i64 (n : Int), .bool more]) := hP
  have hBW : B + 1 < W.heap.size := hPc.lt
  rw [← hn] at hok hr hcn
  have QR : Hid (Calls Try.prog 31 #[.pointer (some ⟨H, 0, none⟩), .agg P] W fun e w' => e = .returned (.int .i64 0) ∧ Below W.heap.size W w') := by
    have := refuse_any W H s v (h.below hb) hi.m2 o n more
    rw [hr] at this
    rw [hP]
    exact this
  have hmx := hi.m2
  have hfit := hok.fit
  have hn1 := hok.n1
  have hn5 : n ≤ 65535 := by omega
  have ho5 : o ≤ 65535 := by omega
  obtain ⟨kl, hkl⟩ := kv_key o n more (by omega) (by omega)
  have HKV : Hid (keyOf Try.prog 78 (kv o n more) = some kl) := hkl
  have HK : Hid (keyOf Try.prog 78 (.agg P) = some kl) := by rw [hP]; exact hkl
  have HH : Hid _ := h
  have HN : Hid (n = d.length) := hn
  have HN1 : Hid (1 ≤ n) := hn1
  have HTK : Hid (s.tk.length ≤ 1000000) := htk
  have H256 : Hid (∀ x ∈ d, x < 256) := h256
  have HSG : Hid (Seg .u8 w da (toI d)) := hseg
  have HDN : Hid (∀ x, da = some x → ¬ HB H v x.block) := hdn
  have HDB : Hid (∀ x, da = some x → x.block < B) := by
    intro x hx
    rcases hseg.lt with k | ⟨b, off, k1, k2⟩
    · rw [toI_len] at k; omega
    · rw [k1] at hx; simp at hx; rw [← hx, hB]; exact k2
  have H2 : Hid (P5 w H v B P W s v) := ⟨h.below hb, fun x hx => .inl hx, Ch.ofBelow hb, hPc, hFt⟩
  obtain ⟨e, he⟩ : ∃ e, e = o + n := ⟨_, rfl⟩
  have HE : Hid (e = o + n) := he
  have he5 : e ≤ 65535 := by omega
  have hoe : o < e := by omega
  have QE : Hid (∀ A : World, Calls Try.prog 33 #[.agg P] A fun r w' => r = .returned (.int .i64 (e : Int)) ∧ Below A.heap.size A w') := by
    intro A
    have := end_any A o n more (by omega) (by omega)
    rw [hP, he, Int.natCast_add]
    exact this
  rw [← he]
  obtain ⟨s1, hs1'⟩ : ∃ s1 : HS, s1 = { s with tk := (o, n, more) :: s.tk } := ⟨_, rfl⟩
  obtain ⟨v1, hv1⟩ : ∃ v1 : HV, v1 = { v with D := v.D.put kl (.agg []) } := ⟨_, rfl⟩
  obtain ⟨s2, hs2'⟩ : ∃ s2 : HS, s2 = { s1 with bs := rB s1.bs e } := ⟨_, rfl⟩
  obtain ⟨s3, hs3'⟩ : ∃ s3 : HS, s3 = { s2 with bs := fB o e d s2.gp s2.bs, gp := fG o e s2.gp } := ⟨_, rfl⟩
  have HS1 : Hid (s1 = { s with tk := (o, n, more) :: s.tk }) := hs1'
  have HV1 : Hid _ := hv1
  have HS2 : Hid (s2 = { s1 with bs := rB s1.bs e }) := hs2'
  have HS3 : Hid (s3 = { s2 with bs := fB o e d s2.gp s2.bs, gp := fG o e s2.gp }) := hs3'
  obtain ⟨sF, hsF⟩ : ∃ sF, sF = pt s o d more := ⟨_, rfl⟩
  have HIF : Hid (Inv sF) := by rw [hsF]; exact (pt_inv hi (by rw [← hn]; exact hok) h256).1
  have HSF : Hid (sF = pt s o d more) := hsF
  rw [← hsF]
  obtain ⟨LL, hLL⟩ : ∃ LL, LL = sF.bs.length := ⟨_, rfl⟩
  have HLL : Hid (LL = sF.bs.length) := hLL
  have hLe : e ≤ LL := by rw [hLL, hsF, pt_bs_len, ← hn, ← he]; omega
  obtain ⟨N, hNN⟩ : ∃ N, N = fN o e s.gp := ⟨_, rfl⟩
  have HNF : Hid (N = fN o e s.gp) := hNN
  rw [← hNN]
  have hNn : N ≤ n := by rw [hNN]; have := fN_le (o := o) (e := e) (by omega) hi.ris; omega
  obtain ⟨AG, hAG⟩ : ∃ AG, AG = decide ((o, n, more) ∈ s.tk) := ⟨_, rfl⟩
  have HAG : Hid (Maps.has v.D kl = AG) := by rw [hAG]; exact h.has hkl
  obtain ⟨SM, hSM⟩ : ∃ SM, SM = decide (d = (sF.bs.drop o).take n) := ⟨_, rfl⟩
  have HSM : Hid (SM = decide (d = (sF.bs.drop o).take n)) := hSM
  rw [← hAG, ← hSM]
  have HRI : Hid (Ris 0 s2.gp s.bd ∧ s.bd ≤ 65535 ∧ e ≤ s2.bs.length ∧ s2.bs.length ≤ 65535 ∧ s1.bs.length ≤ 65535 ∧ s2.gp = s.gp) := by
    have h1 := (HS.bd_le hi).1
    have h2 := hi.bl
    rw [hs2', hs1']
    refine ⟨hi.ris, h1, ?_, ?_, ?_, rfl⟩
    · show e ≤ (rB s.bs e).length; rw [rB_len]; omega
    · show (rB s.bs e).length ≤ 65535; rw [rB_len]; omega
    · show s.bs.length ≤ 65535; omega
  have HEA : Hid (more = false → s3.en = 0 → e < s3.mx → 0 < s3.gp.length) := by
    rw [hs3', hs2', hs1']
    intro k0 k1 k2
    show 0 < (fG o e s.gp).length
    have k1' : s.en = 0 := k1
    have k2' : e < s.mx := k2
    have hbd : s.bd = s.mx := by unfold HS.bd; rw [if_neg (by omega)]
    have h3 := (fG_in (i := e) (o := o) (e := e) (by omega) hi.ris).2 ⟨hi.hd e (by have := hok.c k1' k0; omega) (by omega), by omega⟩
    obtain ⟨g, hg, _⟩ := h3
    exact List.length_pos_of_mem hg
  have HGL : Hid (s3.gp.length ≤ 65535) := by
    rw [hs3', hs2', hs1']
    show (fG o e s.gp).length ≤ 65535
    have h1 := (fG_ris (o := o) (e := e) (by omega) hi.ris).len
    have h2 := (HS.bd_le hi).1
    omega
  have HPT : Hid ((more = true → sF = s3) ∧ (more = false → sF = { s3 with en := e, gp := if s3.en = 0 ∧ e < s3.mx then s3.gp.dropLast else s3.gp })) := by
    rw [hsF, hs3', hs2', hs1', he, hn]
    constructor
    · rintro rfl
      simp [pt]
    · rintro rfl
      simp [pt]
  have wn : IntKind.i64.wrap ((n : Int) - (N : Int)) = (n : Int) - (N : Int) := by rw [IntKind.wrap_i64]; omega
  clear hn hW hB hs1 hb1 hP hr h hi hok hseg hdn hkl htk h256 hs1' hv1 hs2' hs3' hsF hLL hNN hAG hSM he hmx hfit hn1 hb
  go_enter Try.func13, Try.ntmps13
  go_upto_region 2 with fail
  (try simp only [World.size_alloc])
  rw [HWW.out, HBB.out]
  go_wp2_with (first | (refine wpList_load_Pc (.tmp 10) rfl (B + 1) P HP3.out rfl hPc rfl ?_))
  refine Calls.mono QR.out ?_
  rintro e2 w2 ⟨rfl, hb2⟩
  have H3 : Hid (P5 w H v B P w2 s v) := H2.out.below hb2
  clear QR hb2 H2 hPc hFt
  go_upto_region 5 with fail
  refine MixH.start (fun A => P5 w H v B P A s v) (by kernel_rfl) ?_
  obtain ⟨w3, hw3⟩ : ∃ w3, w3 = w2.drew := ⟨_, rfl⟩
  have hS : P5 w H v B P w3 s v := by rw [hw3]; exact H3.out.below (drew_below (Below.refl _ _))
  rw [← hw3]
  clear hw3
  refine MixH.takes [true, true, true] 9 (by kernel_rfl) (by kernel_rfl) (by decide) (by kernel_rfl) hS (fun K hK => ?_)
  simp only [Mix.pick]
  repeat (go_big_quiet_step (fail))
  refine wpQuiet_nil (hK _ ?_)
  clear hK K
  refine MixH.take 8 3 _ (.map (some v.M)) rfl (by kernel_rfl) (by kernel_rfl) (by kernel_rfl) (by kernel_rfl) (yields_map (.tmp 31) rfl ⟨H, 4, none⟩ _ rfl rfl (fun A hA => hA.hat.c4)) hS (fun a' ha => ?_)
  simp only [Act.put, List.setIfInBounds_toArray, List.set_cons_succ, List.set_cons_zero] at ha
  subst ha
  refine MixH.take 7 4 _ (.agg P) rfl (by kernel_rfl) (by kernel_rfl) (by kernel_rfl) (by kernel_rfl) (yields_Pc (.tmp 10) rfl (B + 1) P HP3.out rfl rfl (fun A hA => hA.pc)) hS (fun a' ha => ?_)
  simp only [Act.put, List.setIfInBounds_toArray, List.set_cons_succ, List.set_cons_zero] at ha
  subst ha
  refine MixH.take 6 5 _ (.tuple #[.agg #[], .bool (Maps.has v.D kl)]) rfl (by kernel_rfl) (by kernel_rfl) (by kernel_rfl) (by kernel_rfl) (yields_look (.tmp 32) (.tmp 33) rfl v.M s.tk.length v.D (.agg P) kl rfl rfl HK.out rfl (fun A hA => hA.hat.mo)) hS (fun a' ha => ?_)
  simp only [Act.put, List.setIfInBounds_toArray, List.set_cons_succ, List.set_cons_zero] at ha
  subst ha
  refine MixH.takes [false, false, false, false, false, false, true, true, true] 3 (by kernel_rfl) (by kernel_rfl) (by decide) (by kernel_rfl) hS (fun K hK => ?_)
  simp only [Mix.pick]
  repeat (go_big_quiet_step (fail))
  refine wpQuiet_nil (hK _ ?_)
  clear hK K
  refine MixH.one [false, false, false, false, false, false, false, false, false, true] 2 9 _ rfl rfl (by kernel_rfl) (by kernel_rfl) (fun K hK => ?_)
  simp only [Mix.pick]
  go_wp2
  replace hS := hS.below ((Below.refl _ _).alloc (Nat.le_refl _) (.cells #[] 80))
  refine ⟨rfl, hK _ _ hS ?_⟩
  clear hK K
  refine MixH.one [false, false, false, false, false, false, false, false, false, false, true] 1 10 _ rfl rfl (by kernel_rfl) (by kernel_rfl) (fun K hK => ?_)
  simp only [Mix.pick]
  go_wp2
  refine ⟨rfl, hK _ _ hS ?_⟩
  clear hK K
  refine MixH.takes [false, false, false, false, false, false, false, false, false, false, false, true] 0 (by kernel_rfl) (by kernel_rfl) (by decide) (by kernel_rfl) hS (fun K hK => ?_)
  simp only [Mix.pick]
  repeat (go_big_quiet_step (fail))
  refine wpQuiet_nil (hK _ ?_)
  clear hK K
  refine MixH.done (by kernel_rfl) ?_
  have H5 : Hid _ := hS
  clear hS
  obtain ⟨w5, hw5⟩ : ∃ w5, w5 = w3.alloc (.cells #[] 80) := ⟨_, rfl⟩
  rw [← hw5] at H5 ⊢
  rw [HAG.out]
  clear hw5
  go_upto_region 6 with fail
  refine MixH.start (fun A => A.cell? ⟨H, 4, none⟩ = some (.map (some v.M)) ∧ PcAt A (B + 1) P) (by kernel_rfl) ?_
  obtain ⟨w6, hw6⟩ : ∃ w6, w6 = w5.drew := ⟨_, rfl⟩
  have H6 : Hid (P5 w H v B P w6 s v) := by rw [hw6]; exact H5.out.below (drew_below (Below.refl _ _))
  have hS : w6.cell? ⟨H, 4, none⟩ = some (.map (some v.M)) ∧ PcAt w6 (B + 1) P := ⟨H6.out.hat.c4, H6.out.pc⟩
  rw [← hw6]
  clear hw6
  refine MixH.takes [true, true, true, false, false, true] 3 (by kernel_rfl) (by kernel_rfl) (by decide) (by kernel_rfl) hS (fun K hK => ?_)
  simp only [Mix.pick]
  repeat (go_big_quiet_step (fail))
  refine wpQuiet_nil (hK _ ?_)
  clear hK K
  refine MixH.take 2 3 _ (.map (some v.M)) rfl (by kernel_rfl) (by kernel_rfl) (by kernel_rfl) (by kernel_rfl) (yields_map (.tmp 39) rfl ⟨H, 4, none⟩ _ rfl rfl (fun A hA => hA.1)) hS (fun a' ha => ?_)
  simp only [Act.put, List.setIfInBounds_toArray, List.set_cons_succ, List.set_cons_zero] at ha
  subst ha
  refine MixH.take 1 4 _ (.agg P) rfl (by kernel_rfl) (by kernel_rfl) (by kernel_rfl) (by kernel_rfl) (yields_Pc (.tmp 10) rfl (B + 1) P HP3.out rfl rfl (fun A hA => hA.2)) hS (fun a' ha => ?_)
  simp only [Act.put, List.setIfInBounds_toArray, List.set_cons_succ, List.set_cons_zero] at ha
  subst ha
  refine MixH.one [false, false, false, false, false, false, true] 0 6 _ rfl rfl (by kernel_rfl) (by kernel_rfl) (fun K hK => ?_)
  simp only [Mix.pick]
  refine wpList_mapUpdate_own _ rfl (.tmp 40) (.tmp 41) (.tmp 42) 74 rfl 78 80 lawP Try.underlying74 unitElem v.M s.tk.length v.D rfl H6.out.hat.mo (by unfold maxLen; have := HTK.out; omega) (.agg P) (.agg #[]) kl rfl rfl HK.out (.agg []) [] unitElem_mk ?_
  intro w7 hm7 hg7
  have H7 : Hid (P5 w H v B P w7 s1 v1) := by
    have hM := HH.out.lt v.M (.inr (.inl rfl))
    have k7 := Ch.ofGrown hg7
    refine ⟨?_, ?_, H6.out.ch.trans k7 (fun x _ e => .inr (.inl (by simp at e; exact e.symm))), H6.out.pc.ch k7 (fun e => by simp at e; have := HBB.out; omega), H6.out.ft.ch k7 (fun e => by simp at e; have := HBB.out; omega)⟩
    · rw [HS1.out, HV1.out]
      exact H6.out.hat.taken o n more kl HKV.out hm7 hg7
    · rw [HV1.out]
      exact fun x hx => .inl hx
  replace hS : w7.cell? ⟨H, 4, none⟩ = some (.map (some v.M)) ∧ PcAt w7 (B + 1) P := ⟨by have := H7.out.hat.c4; rw [HV1.out] at this; exact this, H7.out.pc⟩
  clear hm7 hg7
  go_wp2
  refine ⟨rfl, hK _ _ hS ?_⟩
  clear hK K
  refine MixH.done (by kernel_rfl) ?_
  clear hS H6 H5 H3
  have hPc7 := H7.out.pc
  go_wp2_with (first | (refine wpList_load_Pc (.tmp 10) rfl (B + 1) P HP3.out rfl hPc7 rfl ?_))
  refine Calls.mono (QE.out _) ?_
  rintro e7 w8 ⟨rfl, hb8⟩
  have H8 : Hid (P5 w H v B P w8 s1 v1) := H7.out.below hb8
  have QRE : Hid (Calls Try.prog 32 #[.pointer (some ⟨H, 0, none⟩), .int .i64 (e : Int)] w8 fun r w' => r = .returned (.tuple #[]) ∧ Moved w8 H v1 w' s2) := by
    rw [HS2.out]
    exact reach_any w8 H s1 v1 H8.out.hat e he5 HRI.out.2.2.2.2.1
  clear hPc7 hb8 H7
  go_wp2_with fail
  refine Calls.mono QRE.out ?_
  rintro e8 w9 ⟨rfl, hm9⟩
  obtain ⟨v9, h9⟩ := H8.out.moved HH.out HBB.out hm9
  have H9 : Hid (P5 w H v B P w9 s2 v9) := h9
  have QF : Hid (Calls Try.prog 34 #[.pointer (some ⟨H, 0, none⟩), .int .i64 (o : Int), .slice da n c] w9 fun r w' => r = .returned (.int .i64 (N : Int)) ∧ Moved w9 H v9 w' s3) := by
    have hd := fill_any w9 H s2 v9 H9.out.hat s.bd HRI.out.1 HRI.out.2.1 o d da c (by rw [← HN.out]; exact HN1.out) (by rw [← HN.out, ← HE.out]; exact HRI.out.2.2.1) HRI.out.2.2.2.1 (by rw [← HN.out]; exact hcn) (H9.out.ch.seg HSG.out (fun x _ hx => HDN.out x hx)) (by
      intro x hx k
      rcases H9.out.kk _ k with q | q
      · exact HDN.out x hx q
      · have := HDB.out x hx; omega)
    rw [← HN.out, ← HE.out] at hd
    rw [HNF.out, HS3.out, ← HRI.out.2.2.2.2.2]
    exact hd
  clear QRE hm9 h9 H8
  go_wp2_with fail
  refine Calls.mono QF.out ?_
  rintro e9 w10 ⟨rfl, hm10⟩
  obtain ⟨v10, h10⟩ := H9.out.moved HH.out HBB.out hm10
  have H10 : Hid (P5 w H v B P w10 s3 v10) := h10
  clear QF hm10 h10 H9
  cases more with
  | true =>
    rw [← HPT.out.1 rfl] at H10
    cases hag : AG with
    | true =>
      have HRS : Hid ((AG && SM) = SM) := by show _ = _; rw [hag]; rfl
      clear hag
      obtain ⟨gb, bc, hbv, hbc⟩ : ∃ gb bc, v10.bv = .slice (some ⟨gb, 0, none⟩) LL bc ∧ LL ≤ bc := by
        have hoo := H10.out.hat.bo
        rcases hoo.2 with ⟨e1, e2⟩ | ⟨g', cap, cur, e1, e2, e3, e4, e5, e6, e7⟩
        · exfalso
          have e2' : sF.bs.length = 0 := e2
          have := HLL.out
          have := HN1.out
          have := HE.out
          omega
        · exact ⟨g', cap, by rw [HLL.out]; exact e1, by rw [HLL.out]; exact e4⟩
      have HBV : Hid (v10.bv = .slice (some ⟨gb, 0, none⟩) LL bc) := hbv
      clear hbv
      have HEQ : Hid (∀ A : World, P5 w H v B P A sF v10 → Calls Try.prog 36 #[.slice da n c, .slice (some ⟨gb, o, none⟩) (e - o) (bc - o)] A fun r w' => r = .returned (.bool SM) ∧ A = w') := by
        intro A hA
        have hsB := owns_seg hA.hat.bo (k := .u8)
        have hb0 : (toI sF.bs).length = LL := by rw [toI_len, HLL.out]
        obtain ⟨ab, cb, e1, hsg⟩ := hsB
        rw [HBV.out] at e1
        simp only [Value.slice.injEq] at e1
        obtain ⟨rfl, _, _⟩ := e1
        have hpt := hsg.1.part o n (by rw [hb0]; have := HE.out; omega)
        rw [toI_drop, toI_take] at hpt
        have e3 : (some (⟨gb, 0, none⟩ : Addr)).map (fun x => x.add o) = some ⟨gb, o, none⟩ := by simp [Addr.add_lit]
        rw [e3] at hpt
        have e4 : e - o = n := by have := HE.out; omega
        rw [e4, HSM.out]
        refine equal_any da (some ⟨gb, o, none⟩) n n c (bc - o) d ((sF.bs.drop o).take n) A HN.out.symm ?_ (hA.ch.seg HSG.out (fun x _ hx => HDN.out x hx)) hpt H256.out ?_
        · rw [List.length_take, List.length_drop]
          have h1 := HLL.out
          have h2 := HE.out
          omega
        · intro x hx
          exact HIF.out.b8 x (List.mem_of_mem_drop (List.mem_of_mem_take hx))
      go_upto_region 11 with fail
      refine MixH.start (fun A => P5 w H v B P A sF v10) (by kernel_rfl) ?_
      obtain ⟨wX, hwX⟩ : ∃ wX, wX = w10.drew := ⟨_, rfl⟩
      have hS : P5 w H v B P wX sF v10 := by rw [hwX]; exact H10.out.below (drew_below (Below.refl _ _))
      rw [← hwX]
      clear hwX
      refine MixH.takes [true, true, true, true, true, true, false, true] 7 (by kernel_rfl) (by kernel_rfl) (by decide) (by kernel_rfl) hS (fun K hK => ?_)
      simp only [Mix.pick]
      repeat (go_big_quiet_step (fail))
      refine wpQuiet_nil (hK _ ?_)
      clear hK K
      refine MixH.take 6 6 _ (.slice (some ⟨gb, 0, none⟩) LL bc) rfl (by kernel_rfl) (by kernel_rfl) (by kernel_rfl) (by kernel_rfl) (yields_bytes (.tmp 62) rfl ⟨H, 2, none⟩ _ rfl rfl (fun A hA => hA.hat.c2.trans (congrArg some HBV.out))) hS (fun a' ha => ?_)
      simp only [Act.put, List.setIfInBounds_toArray, List.set_cons_succ, List.set_cons_zero] at ha
      subst ha
      refine MixH.take 5 8 _ (.agg P) rfl (by kernel_rfl) (by kernel_rfl) (by kernel_rfl) (by kernel_rfl) (yields_Pc (.tmp 10) rfl (B + 1) P HP3.out rfl rfl (fun A hA => hA.pc)) hS (fun a' ha => ?_)
      simp only [Act.put, List.setIfInBounds_toArray, List.set_cons_succ, List.set_cons_zero] at ha
      subst ha
      refine MixH.one [false, false, false, false, false, false, false, false, false, true] 4 9 _ rfl rfl (by kernel_rfl) (by kernel_rfl) (fun K hK => ?_)
      simp only [Mix.pick]
      go_wp2_with fail
      refine Calls.mono (QE.out _) ?_
      rintro e' wE ⟨rfl, hbE⟩
      replace hS := hS.below hbE
      clear hbE
      go_wp2
      refine ⟨rfl, hK _ _ hS ?_⟩
      clear hK K
      refine MixH.takes [false, false, false, false, false, false, false, false, false, false, true] 3 (by kernel_rfl) (by kernel_rfl) (by decide) (by kernel_rfl) hS (fun K hK => ?_)
      simp only [Mix.pick]
      repeat (go_big_quiet_step (fail))
      refine wpQuiet_nil (hK _ ?_)
      clear hK K
      refine MixH.one [false, false, false, false, false, false, false, false, false, false, false, true] 2 11 _ rfl rfl (by kernel_rfl) (by kernel_rfl) (fun K hK => ?_)
      simp only [Mix.pick]
      have QQ := HEQ.out wE hS
      go_wp2_with fail
      refine Calls.mono QQ ?_
      rintro e' wG ⟨rfl, rfl⟩
      clear QQ
      go_wp2
      refine ⟨rfl, hK _ _ hS ?_⟩
      clear hK K
      refine MixH.takes [false, false, false, false, false, false, false, false, false, false, false, false, true, true] 0 (by kernel_rfl) (by kernel_rfl) (by decide) (by kernel_rfl) hS (fun K hK => ?_)
      simp only [Mix.pick]
      repeat (go_big_quiet_step (fail))
      refine wpQuiet_nil (hK _ ?_)
      clear hK K
      refine MixH.done (by kernel_rfl) ?_
      have hFt := hS.ft
      have pcn : wE.cell? ⟨B + 1, 1, none⟩ = some (.int .i64 (n : Int)) := (hS.pc.cell 1).trans (by rw [HP.out]; rfl)
      have HSX : Hid _ := hS
      clear hS
      go_wp2_with (first | (refine wpList_store_Ft (.tmp 8) (.tmp 76) rfl rfl B ftz #[.int .i64 (N : Int), .int .i64 ((n : Int) - (N : Int)), .bool SM] rfl rfl (ft_one _ _ _) rfl rfl hFt rfl ?_))
      intro wF hFF kF
      have HFF : Hid _ := hFF
      have HMV : Hid (Moved w H v wF sF) := HSX.out.fin HH.out HBB.out kF
      clear hFF kF hFt pcn HSX
      go_wp2
      (try simp only [Exit.inBlock, Exit.then])
      refine bodyPost_ret (results_ft rfl _ _ B _ rfl rfl HFF.out) rfl ?_
      refine ⟨?_, HMV.out⟩
      rw [HRS.out]
      rfl
    | false =>
      have HRS : Hid ((AG && SM) = false) := by show _ = _; rw [hag]; rfl
      clear hag
      go_upto_region 11 with fail
      refine MixH.start (fun A => P5 w H v B P A sF v10) (by kernel_rfl) ?_
      obtain ⟨wX, hwX⟩ : ∃ wX, wX = w10.drew := ⟨_, rfl⟩
      have hS : P5 w H v B P wX sF v10 := by rw [hwX]; exact H10.out.below (drew_below (Below.refl _ _))
      rw [← hwX]
      clear hwX
      refine MixH.takes [true, true, true, true, true, true, false, true] 7 (by kernel_rfl) (by kernel_rfl) (by decide) (by kernel_rfl) hS (fun K hK => ?_)
      simp only [Mix.pick]
      repeat (go_big_quiet_step (fail))
      refine wpQuiet_nil (hK _ ?_)
      clear hK K
      refine MixH.take 6 6 _ (undef) rfl (by kernel_rfl) (by kernel_rfl) (by kernel_rfl) (by kernel_rfl) (.inr ⟨rfl, rfl⟩) hS (fun a' ha => ?_)
      simp only [Act.put, List.setIfInBounds_toArray, List.set_cons_succ, List.set_cons_zero] at ha
      subst ha
      refine MixH.take 5 8 _ (undef) rfl (by kernel_rfl) (by kernel_rfl) (by kernel_rfl) (by kernel_rfl) (.inr ⟨rfl, rfl⟩) hS (fun a' ha => ?_)
      simp only [Act.put, List.setIfInBounds_toArray, List.set_cons_succ, List.set_cons_zero] at ha
      subst ha
      refine MixH.take 4 9 _ (undef) rfl (by kernel_rfl) (by kernel_rfl) (by kernel_rfl) (by kernel_rfl) (.inr ⟨rfl, rfl⟩) hS (fun a' ha => ?_)
      simp only [Act.put, List.setIfInBounds_toArray, List.set_cons_succ, List.set_cons_zero] at ha
      subst ha
      refine MixH.takes [false, false, false, false, false, false, false, false, false, false, true] 3 (by kernel_rfl) (by kernel_rfl) (by decide) (by kernel_rfl) hS (fun K hK => ?_)
      simp only [Mix.pick]
      repeat (go_big_quiet_step (fail))
      refine wpQuiet_nil (hK _ ?_)
      clear hK K
      refine MixH.take 2 11 _ (undef) rfl (by kernel_rfl) (by kernel_rfl) (by kernel_rfl) (by kernel_rfl) (.inr ⟨rfl, rfl⟩) hS (fun a' ha => ?_)
      simp only [Act.put, List.setIfInBounds_toArray, List.set_cons_succ, List.set_cons_zero] at ha
      subst ha
      refine MixH.takes [false, false, false, false, false, false, false, false, false, false, false, false, true, true] 0 (by kernel_rfl) (by kernel_rfl) (by decide) (by kernel_rfl) hS (fun K hK => ?_)
      simp only [Mix.pick]
      repeat (go_big_quiet_step (fail))
      refine wpQuiet_nil (hK _ ?_)
      clear hK K
      refine MixH.done (by kernel_rfl) ?_
      have hFt := hS.ft
      have pcn : wX.cell? ⟨B + 1, 1, none⟩ = some (.int .i64 (n : Int)) := (hS.pc.cell 1).trans (by rw [HP.out]; rfl)
      have HSX : Hid _ := hS
      clear hS
      go_wp2_with (first | (refine wpList_store_Ft (.tmp 8) (.tmp 76) rfl rfl B ftz #[.int .i64 (N : Int), .int .i64 ((n : Int) - (N : Int)), .bool false] rfl rfl (ft_one _ _ _) rfl rfl hFt rfl ?_))
      intro wF hFF kF
      have HFF : Hid _ := hFF
      have HMV : Hid (Moved w H v wF sF) := HSX.out.fin HH.out HBB.out kF
      clear hFF kF hFt pcn HSX
      go_wp2
      (try simp only [Exit.inBlock, Exit.then])
      refine bodyPost_ret (results_ft rfl _ _ B _ rfl rfl HFF.out) rfl ?_
      refine ⟨?_, HMV.out⟩
      rw [HRS.out]
      rfl
  | false =>
    have HP2 : Hid (sF = { s3 with en := e, gp := if s3.en = 0 ∧ e < s3.mx then s3.gp.dropLast else s3.gp }) := HPT.out.2 rfl
    have HEA2 : Hid (s3.en = 0 → e < s3.mx → 0 < s3.gp.length) := HEA.out rfl
    clear HPT HEA
    have hPc11 := H10.out.pc
    go_wp2_with (first | (refine wpList_load_Pc (.tmp 10) rfl (B + 1) P HP3.out rfl hPc11 rfl ?_))
    refine Calls.mono (QE.out _) ?_
    rintro e11 w11 ⟨rfl, hb11⟩
    have H11 : Hid (P5 w H v B P w11 s3 v10) := H10.out.below hb11
    have QEA : Hid (Calls Try.prog 35 #[.pointer (some ⟨H, 0, none⟩), .int .i64 (e : Int)] w11 fun r w' => r = .returned (.tuple #[]) ∧ Moved w11 H v10 w' sF) := by
      rw [HP2.out]
      exact endAt_any w11 H s3 v10 H11.out.hat e HEA2.out HGL.out
    clear hPc11 hb11 H10
    go_wp2_with fail
    refine Calls.mono QEA.out ?_
    rintro e12 w12 ⟨rfl, hm12⟩
    obtain ⟨v12, h12⟩ := H11.out.moved HH.out HBB.out hm12
    have H12 : Hid (P5 w H v B P w12 sF v12) := h12
    clear QEA hm12 h12 H11
    cases hag : AG with
    | true =>
      have HRS : Hid ((AG && SM) = SM) := by show _ = _; rw [hag]; rfl
      clear hag
      obtain ⟨gb, bc, hbv, hbc⟩ : ∃ gb bc, v12.bv = .slice (some ⟨gb, 0, none⟩) LL bc ∧ LL ≤ bc := by
        have hoo := H12.out.hat.bo
        rcases hoo.2 with ⟨e1, e2⟩ | ⟨g', cap, cur, e1, e2, e3, e4, e5, e6, e7⟩
        · exfalso
          have e2' : sF.bs.length = 0 := e2
          have := HLL.out
          have := HN1.out
          have := HE.out
          omega
        · exact ⟨g', cap, by rw [HLL.out]; exact e1, by rw [HLL.out]; exact e4⟩
      have HBV : Hid (v12.bv = .slice (some ⟨gb, 0, none⟩) LL bc) := hbv
      clear hbv
      have HEQ : Hid (∀ A : World, P5 w H v B P A sF v12 → Calls Try.prog 36 #[.slice da n c, .slice (some ⟨gb, o, none⟩) (e - o) (bc - o)] A fun r w' => r = .returned (.bool SM) ∧ A = w') := by
        intro A hA
        have hsB := owns_seg hA.hat.bo (k := .u8)
        have hb0 : (toI sF.bs).length = LL := by rw [toI_len, HLL.out]
        obtain ⟨ab, cb, e1, hsg⟩ := hsB
        rw [HBV.out] at e1
        simp only [Value.slice.injEq] at e1
        obtain ⟨rfl, _, _⟩ := e1
        have hpt := hsg.1.part o n (by rw [hb0]; have := HE.out; omega)
        rw [toI_drop, toI_take] at hpt
        have e3 : (some (⟨gb, 0, none⟩ : Addr)).map (fun x => x.add o) = some ⟨gb, o, none⟩ := by simp [Addr.add_lit]
        rw [e3] at hpt
        have e4 : e - o = n := by have := HE.out; omega
        rw [e4, HSM.out]
        refine equal_any da (some ⟨gb, o, none⟩) n n c (bc - o) d ((sF.bs.drop o).take n) A HN.out.symm ?_ (hA.ch.seg HSG.out (fun x _ hx => HDN.out x hx)) hpt H256.out ?_
        · rw [List.length_take, List.length_drop]
          have h1 := HLL.out
          have h2 := HE.out
          omega
        · intro x hx
          exact HIF.out.b8 x (List.mem_of_mem_drop (List.mem_of_mem_take hx))
      go_upto_region 11 with fail
      refine MixH.start (fun A => P5 w H v B P A sF v12) (by kernel_rfl) ?_
      obtain ⟨wX, hwX⟩ : ∃ wX, wX = w12.drew := ⟨_, rfl⟩
      have hS : P5 w H v B P wX sF v12 := by rw [hwX]; exact H12.out.below (drew_below (Below.refl _ _))
      rw [← hwX]
      clear hwX
      refine MixH.takes [true, true, true, true, true, true, false, true] 7 (by kernel_rfl) (by kernel_rfl) (by decide) (by kernel_rfl) hS (fun K hK => ?_)
      simp only [Mix.pick]
      repeat (go_big_quiet_step (fail))
      refine wpQuiet_nil (hK _ ?_)
      clear hK K
      refine MixH.take 6 6 _ (.slice (some ⟨gb, 0, none⟩) LL bc) rfl (by kernel_rfl) (by kernel_rfl) (by kernel_rfl) (by kernel_rfl) (yields_bytes (.tmp 62) rfl ⟨H, 2, none⟩ _ rfl rfl (fun A hA => hA.hat.c2.trans (congrArg some HBV.out))) hS (fun a' ha => ?_)
      simp only [Act.put, List.setIfInBounds_toArray, List.set_cons_succ, List.set_cons_zero] at ha
      subst ha
      refine MixH.take 5 8 _ (.agg P) rfl (by kernel_rfl) (by kernel_rfl) (by kernel_rfl) (by kernel_rfl) (yields_Pc (.tmp 10) rfl (B + 1) P HP3.out rfl rfl (fun A hA => hA.pc)) hS (fun a' ha => ?_)
      simp only [Act.put, List.setIfInBounds_toArray, List.set_cons_succ, List.set_cons_zero] at ha
      subst ha
      refine MixH.one [false, false, false, false, false, false, false, false, false, true] 4 9 _ rfl rfl (by kernel_rfl) (by kernel_rfl) (fun K hK => ?_)
      simp only [Mix.pick]
      go_wp2_with fail
      refine Calls.mono (QE.out _) ?_
      rintro e' wE ⟨rfl, hbE⟩
      replace hS := hS.below hbE
      clear hbE
      go_wp2
      refine ⟨rfl, hK _ _ hS ?_⟩
      clear hK K
      refine MixH.takes [false, false, false, false, false, false, false, false, false, false, true] 3 (by kernel_rfl) (by kernel_rfl) (by decide) (by kernel_rfl) hS (fun K hK => ?_)
      simp only [Mix.pick]
      repeat (go_big_quiet_step (fail))
      refine wpQuiet_nil (hK _ ?_)
      clear hK K
      refine MixH.one [false, false, false, false, false, false, false, false, false, false, false, true] 2 11 _ rfl rfl (by kernel_rfl) (by kernel_rfl) (fun K hK => ?_)
      simp only [Mix.pick]
      have QQ := HEQ.out wE hS
      go_wp2_with fail
      refine Calls.mono QQ ?_
      rintro e' wG ⟨rfl, rfl⟩
      clear QQ
      go_wp2
      refine ⟨rfl, hK _ _ hS ?_⟩
      clear hK K
      refine MixH.takes [false, false, false, false, false, false, false, false, false, false, false, false, true, true] 0 (by kernel_rfl) (by kernel_rfl) (by decide) (by kernel_rfl) hS (fun K hK => ?_)
      simp only [Mix.pick]
      repeat (go_big_quiet_step (fail))
      refine wpQuiet_nil (hK _ ?_)
      clear hK K
      refine MixH.done (by kernel_rfl) ?_
      have hFt := hS.ft
      have pcn : wE.cell? ⟨B + 1, 1, none⟩ = some (.int .i64 (n : Int)) := (hS.pc.cell 1).trans (by rw [HP.out]; rfl)
      have HSX : Hid _ := hS
      clear hS
      go_wp2_with (first | (refine wpList_store_Ft (.tmp 8) (.tmp 76) rfl rfl B ftz #[.int .i64 (N : Int), .int .i64 ((n : Int) - (N : Int)), .bool SM] rfl rfl (ft_one _ _ _) rfl rfl hFt rfl ?_))
      intro wF hFF kF
      have HFF : Hid _ := hFF
      have HMV : Hid (Moved w H v wF sF) := HSX.out.fin HH.out HBB.out kF
      clear hFF kF hFt pcn HSX
      go_wp2
      (try simp only [Exit.inBlock, Exit.then])
      refine bodyPost_ret (results_ft rfl _ _ B _ rfl rfl HFF.out) rfl ?_
      refine ⟨?_, HMV.out⟩
      rw [HRS.out]
      rfl
    | false =>
      have HRS : Hid ((AG && SM) = false) := by show _ = _; rw [hag]; rfl
      clear hag
      go_upto_region 11 with fail
      refine MixH.start (fun A => P5 w H v B P A sF v12) (by kernel_rfl) ?_
      obtain ⟨wX, hwX⟩ : ∃ wX, wX = w12.drew := ⟨_, rfl⟩
      have hS : P5 w H v B P wX sF v12 := by rw [hwX]; exact H12.out.below (drew_below (Below.refl _ _))
      rw [← hwX]
      clear hwX
      refine MixH.takes [true, true, true, true, true, true, false, true] 7 (by kernel_rfl) (by kernel_rfl) (by decide) (by kernel_rfl) hS (fun K hK => ?_)
      simp only [Mix.pick]
      repeat (go_big_quiet_step (fail))
      refine wpQuiet_nil (hK _ ?_)
      clear hK K
      refine MixH.take 6 6 _ (undef) rfl (by kernel_rfl) (by kernel_rfl) (by kernel_rfl) (by kernel_rfl) (.inr ⟨rfl, rfl⟩) hS (fun a' ha => ?_)
      simp only [Act.put, List.setIfInBounds_toArray, List.set_cons_succ, List.set_cons_zero] at ha
      subst ha
      refine MixH.take 5 8 _ (undef) rfl (by kernel_rfl) (by kernel_rfl) (by kernel_rfl) (by kernel_rfl) (.inr ⟨rfl, rfl⟩) hS (fun a' ha => ?_)
      simp only [Act.put, List.setIfInBounds_toArray, List.set_cons_succ, List.set_cons_zero] at ha
      subst ha
      refine MixH.take 4 9 _ (undef) rfl (by kernel_rfl) (by kernel_rfl) (by kernel_rfl) (by kernel_rfl) (.inr ⟨rfl, rfl⟩) hS (fun a' ha => ?_)
      simp only [Act.put, List.setIfInBounds_toArray, List.set_cons_succ, List.set_cons_zero] at ha
      subst ha
      refine MixH.takes [false, false, false, false, false, false, false, false, false, false, true] 3 (by kernel_rfl) (by kernel_rfl) (by decide) (by kernel_rfl) hS (fun K hK => ?_)
      simp only [Mix.pick]
      repeat (go_big_quiet_step (fail))
      refine wpQuiet_nil (hK _ ?_)
      clear hK K
      refine MixH.take 2 11 _ (undef) rfl (by kernel_rfl) (by kernel_rfl) (by kernel_rfl) (by kernel_rfl) (.inr ⟨rfl, rfl⟩) hS (fun a' ha => ?_)
      simp only [Act.put, List.setIfInBounds_toArray, List.set_cons_succ, List.set_cons_zero] at ha
      subst ha
      refine MixH.takes [false, false, false, false, false, false, false, false, false, false, false, false, true, true] 0 (by kernel_rfl) (by kernel_rfl) (by decide) (by kernel_rfl) hS (fun K hK => ?_)
      simp only [Mix.pick]
      repeat (go_big_quiet_step (fail))
      refine wpQuiet_nil (hK _ ?_)
      clear hK K
      refine MixH.done (by kernel_rfl) ?_
      have hFt := hS.ft
      have pcn : wX.cell? ⟨B + 1, 1, none⟩ = some (.int .i64 (n : Int)) := (hS.pc.cell 1).trans (by rw [HP.out]; rfl)
      have HSX : Hid _ := hS
      clear hS
      go_wp2_with (first | (refine wpList_store_Ft (.tmp 8) (.tmp 76) rfl rfl B ftz #[.int .i64 (N : Int), .int .i64 ((n : Int) - (N : Int)), .bool false] rfl rfl (ft_one _ _ _) rfl rfl hFt rfl ?_))
      intro wF hFF kF
      have HFF : Hid _ := hFF
      have HMV : Hid (Moved w H v wF sF) := HSX.out.fin HH.out HBB.out kF
      clear hFF kF hFt pcn HSX
      go_wp2
      (try simp only [Exit.inBlock, Exit.then])
      refine bodyPost_ret (results_ft rfl _ _ B _ rfl rfl HFF.out) rfl ?_
      refine ⟨?_, HMV.out⟩
      rw [HRS.out]
      rfl


end H11
end Go.Proofs.Ytcoaghcmbhogjaa
