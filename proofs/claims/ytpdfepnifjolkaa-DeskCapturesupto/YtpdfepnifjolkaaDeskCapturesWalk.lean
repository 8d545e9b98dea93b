/-
  Layer 20, captures: the walk of DeskCaptures.
-/
import Derived.Test.YtpdfepnifjolkaaDCF
namespace Go.Proofs.Ytpdfepnifjolkaa
open Go.RowKit Go.ChangeShapes Go.WideShapes

theorem cvt_256 {L : List CE} {cs : List CV} (h : L.map cvt = cs) (k : ∀ c ∈ cs, ∀ x ∈ c.2.2.2, x < 256) : ∀ c ∈ L, ∀ x ∈ c.d, x < 256 := fun c hc => k (cvt c) (by rw [← h]; exact List.mem_map_of_mem hc)
/-- two lists of frames that were read alike, held against one another -/
theorem same_caps {w : World} {b1 b2 n c1 c2 : Nat} {a1 a2 : Option Addr} {X Y : List CE} {cs : List CV} (h1 : Caps w b1 (.slice a1 n c1) X) (h2 : Caps w b2 (.slice a2 n c2) Y) (hX : X.map cvt = cs) (hY : Y.map cvt = cs) (k : ∀ c ∈ cs, ∀ x ∈ c.2.2.2, x < 256) (hn : X.length = n) (hn2 : n ≤ 1000000000000) :
    Calls Try.prog 8 #[.slice a1 n c1, .slice a2 n c2] w fun e w' => e = .returned (.bool true) ∧ Below w.heap.size w w' := by
  obtain ⟨xa, xc, hx, hxi⟩ := h1.inn (cvt_256 hX k)
  obtain ⟨ya, yc, hy, hyi⟩ := h2.inn (cvt_256 hY k)
  simp only [Value.slice.injEq] at hx hy
  rw [← hx.1] at hxi
  rw [← hy.1] at hyi
  exact same_true w a1 a2 n c1 c2 X Y hxi hyi hn (by rw [hX, hY]) hn2
/-- two lists of frames alike, whose bytes are turned -/
structure Tw (b1 s1 : Nat) (fa : Option Addr) (p fc : Nat) (ua : Option Addr) (uc : Nat) (wA w : World) (E1 E2 : List FX) : Prop where
  x : CapsX w b1 (.slice fa p fc) E1
  y : CapsX w wA.heap.size (.slice ua p uc) E2
  e : E1.map (fun e => cvt e.1) = E2.map (fun e => cvt e.1)
  b8 : ∀ c ∈ E1.map (fun e => cvt e.1), ∀ x ∈ c.2.2.2, x < 256
  n : E1.length = p
  lo : ∀ e ∈ E1, ∀ q, (fxV e).ownBlock = some q → q < s1
  k : Ch (fun q => b1 ≤ q ∧ q < s1 ∨ wA.heap.size ≤ q) wA w
theorem Tw.at {b1 s1 : Nat} {fa : Option Addr} {p fc : Nat} {ua : Option Addr} {uc : Nat} {wA w : World} {E1 E2 : List FX} (h : Tw b1 s1 fa p fc ua uc wA w E1 E2) {k : Nat} (hk : k < p) : ∃ e1 e2, E1[k]? = some e1 ∧ E2[k]? = some e2 ∧ cvt e1.1 = cvt e2.1 := by
  have h1 : E1[k]? = some (E1[k]'(by rw [h.n]; exact hk)) := List.getElem?_eq_getElem _
  have h2 := congrArg (fun l => l[k]?) h.e
  simp only [List.getElem?_map, h1, Option.map_some] at h2
  cases he : E2[k]? with
  | none => rw [he] at h2; cases h2
  | some e => rw [he, Option.map_some, Option.some.injEq] at h2; exact ⟨_, e, h1, rfl, h2⟩
section
variable {b1 s1 : Nat} {fa : Option Addr} {p fc : Nat} {ua : Option Addr} {uc : Nat} {wA w : World} {E1 E2 : List FX}
theorem wd_own (e : FX) (d : List Nat) : (fxV (e.1.wd d, e.2)).ownBlock = (fxV e).ownBlock := own_len _ _ _ _ _
theorem Tw.mid (h : Tw b1 s1 fa p fc ua uc wA w E1 E2) (hs : s1 ≤ wA.heap.size) {wD : World} (hD : Below w.heap.size w wD) {b q : Nat} {v : Value} (hb : b < s1) {wE : World} (hE : Below (wD.setCell ⟨b, q, none⟩ v).heap.size (wD.setCell ⟨b, q, none⟩ v) wE) : CapsX wE wA.heap.size (.slice ua p uc) E2 := by
  have kc : Ch (fun g => g = b) wD (wD.setCell ⟨b, q, none⟩ v) := (Ch.refl (fun g => g = b) wD).set ⟨b, q, none⟩ _ rfl
  refine CapsX.below ((h.y.below hD).ch kc (fun g hg e => ?_) (fun c hc g hg e => ?_)) hE
  · have := (h.y.l.kind g hg).1; omega
  · have := (h.y.lt c hc g hg).1; omega
theorem Tw.both (h : Tw b1 s1 fa p fc ua uc wA w E1 E2) (hs : s1 ≤ wA.heap.size) (hfa : ∀ q, (Value.slice fa p fc).ownBlock = some q → q < s1) {wD : World} (hD : Below w.heap.size w wD) {k y b c : Nat} {e1 e2 : FX} (he1 : E1[k]? = some e1) (he2 : E2[k]? = some e2) (hee : cvt e1.1 = cvt e2.1) (hl : 0 < e1.1.d.length) (ha1 : e1.1.a = some ⟨b, 0, none⟩) (ha2 : e2.1.a = some ⟨c, 0, none⟩) (hy : y < 256) {wE : World} (hE : Below (wD.setCell ⟨b, 0, none⟩ (.int .u8 (y : Int))).heap.size (wD.setCell ⟨b, 0, none⟩ (.int .u8 (y : Int))) wE) :
    Tw b1 s1 fa p fc ua uc wA (wE.setCell ⟨c, 0, none⟩ (.int .u8 (y : Int))) (E1.set k (e1.1.wd (e1.1.d.set 0 y), e1.2)) (E2.set k (e2.1.wd (e2.1.d.set 0 y), e2.2)) := by
  have hdd : e1.1.d = e2.1.d := congrArg (fun c => c.2.2.2) hee
  have hbs : b < s1 := h.lo e1 (List.mem_of_getElem? he1) b (by unfold fxV; rw [ha1]; rfl)
  have hbb : b1 ≤ b := (h.x.lt e1 (List.mem_of_getElem? he1) b (by unfold fxV; rw [ha1]; rfl)).1
  have hcb : wA.heap.size ≤ c := (h.y.lt e2 (List.mem_of_getElem? he2) c (by unfold fxV; rw [ha2]; rfl)).1
  obtain ⟨b', hb', _, _, _, hx1⟩ := (h.x.below hD).byte he1 (j := 0) hl
  rw [ha1] at hb'
  simp only [Option.some.injEq, Addr.mk.injEq, and_true] at hb'
  subst hb'
  have hY := h.mid hs hD hbs hE
  obtain ⟨c', hc', _, _, _, hx2⟩ := hY.byte he2 (j := 0) (by rw [← hdd]; exact hl)
  rw [ha2] at hc'
  simp only [Option.some.injEq, Addr.mk.injEq, and_true] at hc'
  subst hc'
  have kb : Ch (fun g => g = b) wD (wD.setCell ⟨b, 0, none⟩ (.int .u8 (y : Int))) := (Ch.refl (fun g => g = b) wD).set ⟨b, 0, none⟩ _ rfl
  have kc : Ch (fun g => g = c) wE (wE.setCell ⟨c, 0, none⟩ (.int .u8 (y : Int))) := (Ch.refl (fun g => g = c) wE).set ⟨c, 0, none⟩ _ rfl
  have hlo : ∀ e ∈ E1.set k (e1.1.wd (e1.1.d.set 0 y), e1.2), ∀ q, (fxV e).ownBlock = some q → q < s1 := fun e he q hq => by
    rcases List.mem_or_eq_of_mem_set he with he | rfl
    · exact h.lo e he q hq
    · rw [wd_own] at hq; exact h.lo e1 (List.mem_of_getElem? he1) q hq
  have hX := (hx1 y).below hE
  refine ⟨hX.ch kc (fun g hg e => by have := hfa g hg; omega) (fun x hx g hg e => by have := hlo x hx g hg; omega), hx2 y, ?_, ?_, by rw [List.length_set]; exact h.n, hlo, ?_⟩
  · rw [List.map_set, List.map_set, h.e]
    congr 1
    simp only [cvt, CE.wd]
    simp only [cvt, Prod.mk.injEq] at hee
    rw [hee.1, hee.2.1, hee.2.2.1, hee.2.2.2]
  · intro x hx v hv
    rw [List.map_set] at hx
    rcases List.mem_or_eq_of_mem_set hx with hx | rfl
    · exact h.b8 x hx v hv
    · simp only [cvt, CE.wd] at hv
      rcases List.mem_or_eq_of_mem_set hv with hv | rfl
      · exact h.b8 (cvt e1.1) (List.mem_map.2 ⟨e1, List.mem_of_getElem? he1, rfl⟩) v hv
      · exact hy
  · have hsz := h.k.size
    have k1 : Ch (fun q => b1 ≤ q ∧ q < s1 ∨ wA.heap.size ≤ q) wA wD := h.k.trans (Ch.ofBelow (S := fun q => b1 ≤ q ∧ q < s1 ∨ wA.heap.size ≤ q) hD) (fun _ _ s => s)
    have k2 := k1.trans (kb.mono (T := fun q => b1 ≤ q ∧ q < s1 ∨ wA.heap.size ≤ q) (fun x _ e => .inl (by omega))) (fun _ _ s => s)
    have k3 := k2.trans (Ch.ofBelow (S := fun q => b1 ≤ q ∧ q < s1 ∨ wA.heap.size ≤ q) hE) (fun _ _ s => s)
    exact k3.trans (kc.mono (T := fun q => b1 ≤ q ∧ q < s1 ∨ wA.heap.size ≤ q) (fun x _ e => .inr (by omega))) (fun _ _ s => s)
end
theorem lists_rs {w wN wS wU : World} {s1 s2 s3 s4 s7 s8 s9 sL m oc tc N rc sc N2 gc NL vc : Nat} {oa ta ra sa ga va : Option Addr} {O1 T2 : List CE} {out out2 : List Nat} {r1 r2 r3 : RO} {cs : List CV} {R : List RO}
    (hR : R = [r1, r2, r3] ++ O1.map ceR ++ T2.map ceR)
    (HN3 : Caps wN s1 (.slice oa m oc) O1 ∧ Caps wN s3 (.slice ta m tc) T2 ∧ RowW wN s7 (.slice ra N rc) out ∧ RowW wN s8 (.slice sa N sc) out ∧ RowW wN sL (.slice ga N2 gc) out2 ∧ Below w.heap.size w wN)
    (HZZ : w.heap.size ≤ s1 ∧ s1 ≤ s2 ∧ s2 ≤ s3 ∧ s3 ≤ s4 ∧ s4 ≤ s7 ∧ s7 ≤ s8 ∧ s8 ≤ s9 ∧ s9 ≤ sL) (HLN : sL ≤ wN.heap.size)
    (HFR : (∀ q, (Value.slice ra N rc).ownBlock = some q → s7 ≤ q ∧ q < s8) ∧ ∀ q, (Value.slice sa N sc).ownBlock = some q → s8 ≤ q ∧ q < s9)
    (HL2 : GL 1 roL 22 wS wN.heap.size (.slice va NL vc) R ∧ Below wN.heap.size wN wS)
    (HKS : Ch (fun q => (Value.slice oa m oc).ownBlock = some q ∨ (Value.slice ta m tc).ownBlock = some q) wS wU)
    (HRV : roV r1 = .slice ra N rc ∧ roV r2 = .slice sa N sc ∧ roV r3 = .slice ga N2 gc ∧ r1.d = out ∧ r2.d = out ∧ r3.d = out2)
    (HR : ∀ c ∈ O1, ∀ q, c.v.ownBlock = some q → s1 ≤ q ∧ q < s2) (HRT : ∀ c ∈ T2, ∀ q, c.v.ownBlock = some q → s3 ≤ q ∧ q < s4)
    (HDL : ∀ c ∈ cs, c.2.2.2.length ≤ 65535) (HT : O1.map cvt = cs ∧ T2.map cvt = cs) (HWo : out.length ≤ 140000000000) (HWp : out2.length ≤ 140000000000) :
    Rs wU w.heap.size (.slice va NL vc) R ∧ Lb R ∧ Below w.heap.size w wU := by
  have hz := HZZ
  have hzs := HN3.2.2.2.2.2.size
  have hLN := HLN
  have hS : ∀ q, ((Value.slice oa m oc).ownBlock = some q ∨ (Value.slice ta m tc).ownBlock = some q) → ¬ Ub wS q ∧ q < wN.heap.size ∧ w.heap.size ≤ q := by
    intro q hq
    have key : ∀ {base c : Nat} {a : Option Addr} {L : List CE}, GL 4 ceL 37 wN base (.slice a m c) L → w.heap.size ≤ base → (Value.slice a m c).ownBlock = some q → ¬ Ub wS q ∧ q < wN.heap.size ∧ w.heap.size ≤ q := by
      intro base c a L hg hb hq
      obtain ⟨k1, k2, x, hx⟩ := hg.kind q hq
      refine ⟨fun ⟨y, fr, hy⟩ => ?_, k2, by omega⟩
      rw [HL2.2.block q k2, hx] at hy
      simp at hy
    rcases hq with hq | hq
    · exact key HN3.1.l (by omega) hq
    · exact key HN3.2.1.l (by omega) hq
  have kS : Ch (fun q => (Value.slice oa m oc).ownBlock = some q ∨ (Value.slice ta m tc).ownBlock = some q) wS wU := HKS
  have hbS : Below w.heap.size w wS := HN3.2.2.2.2.2.trans (HL2.2.mono HN3.2.2.2.2.2.size)
  have hrow : ∀ {r : RO}, RowM wN w.heap.size (roV r) r.d → RowM wU w.heap.size (roV r) r.d := fun {r} h => by
    have h1 : RowM wS w.heap.size (roV r) r.d := h.ch (Ch.ofBelow (S := fun _ => False) HL2.2) (fun _ _ => id)
    exact h1.ch kS (fun g hg e => (hS g e).1 (h1.lt g hg).2.2)
  have mono : ∀ {b : Nat} {v : Value} {l : List Nat}, w.heap.size ≤ b → RowM wN b v l → RowM wN w.heap.size v l := fun {b v l} hb h => by
    rcases h with h | ⟨g, e, hg, hh⟩
    · exact .inl (owns_mono h hb)
    · exact .inr ⟨g, e, by omega, hh⟩
  have m1 : RowM wN w.heap.size (roV r1) r1.d := by rw [HRV.1, HRV.2.2.2.1]; exact mono (by omega) HN3.2.2.1.m
  have m2 : RowM wN w.heap.size (roV r2) r2.d := by rw [HRV.2.1, HRV.2.2.2.2.1]; exact mono (by omega) HN3.2.2.2.1.m
  have m3 : RowM wN w.heap.size (roV r3) r3.d := by rw [HRV.2.2.1, HRV.2.2.2.2.2]; exact mono (by omega) HN3.2.2.2.2.1.m
  have i1 : InR s7 s8 r1 := fun q hq => by rw [HRV.1] at hq; exact HFR.1 q hq
  have i2 : InR s8 s9 r2 := fun q hq => by rw [HRV.2.1] at hq; exact HFR.2 q hq
  have i3 : InR sL wN.heap.size r3 := fun q hq => by rw [HRV.2.2.1] at hq; exact HN3.2.2.2.2.1.lt q hq
  have iO : ∀ r ∈ O1.map ceR, InR s1 s2 r := fun r hr q hq => by
    obtain ⟨c, hc, rfl⟩ := List.mem_map.1 hr
    exact HR c hc q hq
  have iT : ∀ r ∈ T2.map ceR, InR s3 s4 r := fun r hr q hq => by
    obtain ⟨c, hc, rfl⟩ := List.mem_map.1 hr
    exact HRT c hc q hq
  have dl : ∀ c ∈ cs, c.2.2.2.length ≤ 65535 := HDL
  have hbU : Below w.heap.size w wU := hbS.trans (kS.below (fun q hq => (hS q hq).2.2) hbS.size)
  refine ⟨⟨?_, ?_, ?_⟩, ?_, hbU⟩
  · have h1 := HL2.1
    refine (h1.ch kS (fun g hg e => ?_)).mono HN3.2.2.2.2.2.size
    have h2 := (h1.kind g hg).1
    have h3 := (hS g e).2.1
    omega
  · intro i r hr
    have hm := List.mem_of_getElem? hr
    rw [hR] at hm
    rcases List.mem_append.1 hm with hm | hm
    · rcases List.mem_append.1 hm with hm | hm
      · simp only [List.mem_cons, List.not_mem_nil, or_false] at hm
        rcases hm with rfl | rfl | rfl
        · exact hrow m1
        · exact hrow m2
        · exact hrow m3
      · obtain ⟨c, hc, rfl⟩ := List.mem_map.1 hm
        exact hrow (mono (b := s1) (by omega) (.inl (HN3.1.d c hc)))
    · obtain ⟨c, hc, rfl⟩ := List.mem_map.1 hm
      exact hrow (mono (b := s3) (by omega) (.inl (HN3.2.1.d c hc)))
  · rw [hR]
    refine List.pairwise_append.2 ⟨List.pairwise_append.2 ⟨?_, ?_, ?_⟩, ?_, ?_⟩
    · refine List.pairwise_cons.2 ⟨?_, List.pairwise_cons.2 ⟨?_, List.pairwise_cons.2 ⟨by simp, List.Pairwise.nil⟩⟩⟩
      · intro s hs
        simp only [List.mem_cons, List.not_mem_nil, or_false] at hs
        rcases hs with rfl | rfl
        · exact i1.apr i2 (by omega)
        · exact i1.apr i3 (by omega)
      · intro s hs
        simp only [List.mem_cons, List.not_mem_nil, or_false] at hs
        subst hs
        exact i2.apr i3 (by omega)
    · rw [List.pairwise_map]; exact HN3.1.ne
    · intro r hr s hs
      simp only [List.mem_cons, List.not_mem_nil, or_false] at hr
      rcases hr with rfl | rfl | rfl
      · exact i1.apr (iO s hs) (by omega)
      · exact i2.apr (iO s hs) (by omega)
      · exact i3.apr (iO s hs) (by omega)
    · rw [List.pairwise_map]; exact HN3.2.1.ne
    · intro r hr s hs
      rcases List.mem_append.1 hr with hr | hr
      · simp only [List.mem_cons, List.not_mem_nil, or_false] at hr
        rcases hr with rfl | rfl | rfl
        · exact i1.apr (iT s hs) (by omega)
        · exact i2.apr (iT s hs) (by omega)
        · exact i3.apr (iT s hs) (by omega)
      · exact (iO r hr).apr (iT s hs) (by omega)
  · intro t r hr
    have hm := List.mem_of_getElem? hr
    rw [hR] at hm
    rcases List.mem_append.1 hm with hm | hm
    · rcases List.mem_append.1 hm with hm | hm
      · simp only [List.mem_cons, List.not_mem_nil, or_false] at hm
        rcases hm with rfl | rfl | rfl
        · rw [HRV.2.2.2.1]; exact HWo
        · rw [HRV.2.2.2.2.1]; exact HWo
        · rw [HRV.2.2.2.2.2]; exact HWp
      · obtain ⟨c, hc, rfl⟩ := List.mem_map.1 hm
        have h1 : cvt c ∈ cs := by rw [← HT.1]; exact List.mem_map_of_mem hc
        have h2 : c.d.length ≤ 65535 := dl _ h1
        show c.d.length ≤ _
        omega
    · obtain ⟨c, hc, rfl⟩ := List.mem_map.1 hm
      have h1 : cvt c ∈ cs := by rw [← HT.2]; exact List.mem_map_of_mem hc
      have h2 : c.d.length ≤ 65535 := dl _ h1
      show c.d.length ≤ _
      omega
theorem num_k8 {wU wV : World} {m base c f : Nat} {a : Option Addr} {L : List CE} (kV : K8 wU wV) (hg : GL 4 ceL 37 wU base (.slice a m c) L) (hl : L.length = m) (hn : ∀ (i : Nat) (c : CE), L[i]? = some c → c.tk = ((f + i : Nat) : Int)) : Num wV a m f := by
  refine (hg.ch kV (fun q hq ⟨y, fr, hy⟩ => ?_)).num hl hn
  obtain ⟨_, _, x, hx⟩ := hg.kind q hq
  rw [hx] at hy
  simp at hy

namespace deskCaptures
set_option maxHeartbeats 4000000 in
set_option maxRecDepth 100000 in
theorem walk (w : World) (a : Option Addr) (n k : Nat) (z : List Int) (h : IsRow .u8 w a n k z) (hcap : k ≤ 1048576) (at_ : Int) (wat : (Lit.int .i64 at_).wf = true) (la : Option Addr) (p lc : Nat) (L : List CE) (hn : L.length = p) (hU : CapsU w la L) (hp2 : p ≤ 1048576) : Calls Try.prog 5 #[.slice a n k, .int .i64 at_, .slice la p lc] w fun e w' => e = .returned (.bool true) ∧ Below w.heap.size w w' := by
  obtain ⟨bs, hlen, hseg, hnk, _, h256⟩ := h.bytes
  obtain ⟨hin0, hdl⟩ := hU.inn
  have h256L : ∀ c ∈ L, ∀ x ∈ c.d, x < 256 := fun c hc => by
    obtain ⟨i, hi⟩ := List.getElem?_of_mem hc
    exact (ListG.at hin0 i c hi).1.2
  have HS : Hid (Seg .u8 w a (toI bs) ∧ bs.length = n ∧ (∀ x ∈ bs, x < 256) ∧ n ≤ k) := ⟨hseg, hlen, h256, hnk⟩
  have HU : Hid (CapsIn w la L ∧ L.length = p ∧ (∀ c ∈ L, c.d.length ≤ 2000000) ∧ (∀ c ∈ L.map cvt, ∀ x ∈ c.2.2.2, x < 256)) := ⟨hin0, hn, fun c hc => by have := hdl c hc; omega, fun c hc => by
    obtain ⟨c', hc', rfl⟩ := List.mem_map.1 hc
    exact h256L c' hc'⟩
  have HWA := wat
  clear hseg hlen h256 h hin0 hdl h256L hU hn
  go_enter Try.func5, Try.ntmps5
  go_upto_region 2 with (first | (at_builtin; refine append_own rfl (.const _) (.tmp 37) rfl w.heap.size (.slice none 0 0) [] rfl (World.ownsRow_nil _ _ _ _) a n k bs rfl HS.out.2.1 HS.out.1 (by simp; omega) (Nat.le_refl _) ?_))
  intro v1 w1 ho1 hk1 _
  replace ho1 : OwnB w1 w.heap.size v1 bs.length bs := by simpa using ho1
  have ho1' := ho1
  unfold OwnB at ho1'
  obtain ⟨ia, ic, hv1, hsg1, _, hic, _⟩ := owns_seg ho1'
  rw [HS.out.2.1] at hv1 hic
  subst hv1
  have H1 : Hid (OwnB w1 w.heap.size (.slice ia n ic) n bs ∧ Below w.heap.size w w1 ∧ Seg .u8 w1 ia (toI bs) ∧ n ≤ ic) := ⟨by rw [HS.out.2.1] at ho1; exact ho1, hk1.below (fun q hq => by simp [Value.ownBlock] at hq) (Nat.le_refl _), hsg1, hic⟩
  clear ho1 ho1' hk1 hsg1 hic
  obtain ⟨E, hE⟩ : ∃ E, E = (rdA bs).2.1 := ⟨_, rfl⟩
  obtain ⟨P, hP⟩ : ∃ P, P = (rdA bs).2.2 := ⟨_, rfl⟩
  obtain ⟨cs, hcs⟩ : ∃ c, c = (rdA bs).1 := ⟨_, rfl⟩
  have HRF : Hid (cs.length ≤ 1048576 ∧ ∀ c ∈ cs, ∀ x ∈ c.2.2.2, x < 256) := by
    have h1 := rdA_facts bs HS.out.2.2.1
    rw [hcs]
    exact ⟨by have h2 := h1.2.1; rw [HS.out.2.1] at h2; omega, h1.2.2.1⟩
  have HDL : Hid (∀ c ∈ cs, c.2.2.2.length ≤ 65535) := by rw [hcs]; exact rdA_dl bs HS.out.2.2.1
  have Q2 : Hid _ := read_any w1 ia n ic bs HS.out.2.1 H1.out.2.2.2 (by omega) H1.out.2.2.1 HS.out.2.2.1
  have Q3 : Hid (∀ W : World, Below w.heap.size w W → Calls Try.prog 7 #[.slice a n k] W fun e w' => Below W.heap.size W w' ∧ ∃ v L, Caps w' W.heap.size v L ∧ L.map cvt = (rdA bs).1 ∧ e = .returned (.tuple #[v, .int .i64 (rdA bs).2.1, .int .i64 (rdA bs).2.2])) := fun W hW => rread_any W a n k bs HS.out.2.1 HS.out.2.2.2 (by omega) (HS.out.1.old hW) HS.out.2.2.1
  have Q4 : Hid (∀ W : World, Below w1.heap.size w1 W → Calls Try.prog 6 #[.slice ia n ic] W fun e w' => Below W.heap.size W w' ∧ ∃ v L, Caps w' W.heap.size v L ∧ L.map cvt = (rdA bs).1 ∧ e = .returned (.tuple #[v, .int .i64 (rdA bs).2.1, .int .i64 (rdA bs).2.2])) := fun W hW => read_any W ia n ic bs HS.out.2.1 H1.out.2.2.2 (by omega) (H1.out.2.2.1.old hW) HS.out.2.2.1
  rw [← hE, ← hP, ← hcs] at Q2 Q3 Q4
  clear hE hP hcs
  go_wp2_with fail
  refine Calls.mono Q2.out ?_
  rintro e w2 ⟨b2, v2, O1, hO1, hOm, rfl⟩
  clear Q2
  obtain ⟨m, hm⟩ : ∃ m, m = cs.length := ⟨_, rfl⟩
  have hmb : m ≤ 1048576 := by rw [hm]; exact HRF.out.1
  have HM : Hid (m = cs.length) := hm
  clear hm
  have hlO : O1.length = m := by have h1 := congrArg List.length hOm; rw [List.length_map] at h1; have h2 := HM.out; omega
  obtain ⟨oa, oc, hv2⟩ := hO1.l.form
  rw [hlO] at hv2
  subst hv2
  have H2 : Hid (Caps w2 w1.heap.size (.slice oa m oc) O1 ∧ O1.map cvt = cs ∧ O1.length = m ∧ Below w1.heap.size w1 w2 ∧ Below w.heap.size w w2) := ⟨hO1, hOm, hlO, b2, H1.out.2.1.trans (b2.mono H1.out.2.1.size)⟩
  clear hO1 hOm hlO b2
  go_wp2_with fail
  refine Calls.mono (Q3.out w2 H2.out.2.2.2.2) ?_
  rintro e w3 ⟨b3, v3, M1, hM1, hMm, rfl⟩
  clear Q3
  have hlM : M1.length = m := by have h1 := congrArg List.length hMm; rw [List.length_map] at h1; have h2 := HM.out; omega
  obtain ⟨ma, mc, hv3⟩ := hM1.l.form
  rw [hlM] at hv3
  subst hv3
  have H3 : Hid (Caps w3 w2.heap.size (.slice ma m mc) M1 ∧ M1.map cvt = cs ∧ Below w2.heap.size w2 w3 ∧ Below w1.heap.size w1 w3) := ⟨hM1, hMm, b3, H2.out.2.2.2.1.trans (b3.mono H2.out.2.2.2.1.size)⟩
  clear hM1 hMm hlM b3
  go_wp2_with fail
  refine Calls.mono (Q4.out w3 H3.out.2.2.2) ?_
  rintro e w4 ⟨b4, v4, T2, hT2, hTm, rfl⟩
  clear Q4
  have hlT : T2.length = m := by have h1 := congrArg List.length hTm; rw [List.length_map] at h1; have h2 := HM.out; omega
  obtain ⟨ta, tc, hv4⟩ := hT2.l.form
  rw [hlT] at hv4
  subst hv4
  have H4 : Hid (Caps w4 w1.heap.size (.slice oa m oc) O1 ∧ Caps w4 w2.heap.size (.slice ma m mc) M1 ∧ Caps w4 w3.heap.size (.slice ta m tc) T2 ∧ T2.map cvt = cs ∧ T2.length = m ∧ Below w1.heap.size w1 w4) := ⟨(H2.out.1.below H3.out.2.2.1).below b4, H3.out.1.below b4, hT2, hTm, hlT, H3.out.2.2.2.trans (b4.mono H3.out.2.2.2.size)⟩
  have HR : Hid (∀ c ∈ O1, ∀ q, c.v.ownBlock = some q → w1.heap.size ≤ q ∧ q < w2.heap.size) := fun c hc q hq => ⟨((H2.out.1.d c hc).kind q hq).1, H2.out.1.lt c hc q hq⟩
  have HOB : Hid (∀ q, (Value.slice oa m oc).ownBlock = some q → w1.heap.size ≤ q ∧ q < w2.heap.size) := fun q hq => ⟨(H2.out.1.l.kind q hq).1, (H2.out.1.l.kind q hq).2.1⟩
  have HW1 : Hid (w.heap.size ≤ w1.heap.size) := H1.out.2.1.size
  have HZ : Hid (w1.heap.size ≤ w2.heap.size ∧ w2.heap.size ≤ w3.heap.size ∧ w3.heap.size ≤ w4.heap.size) := ⟨H2.out.2.2.2.1.size, H3.out.2.2.1.size, b4.size⟩
  clear hT2 hTm hlT b4
  go_wp2_with fail
  refine Calls.mono (same_caps H4.out.1 H4.out.2.1 H2.out.2.1 H3.out.2.1 HRF.out.2 H2.out.2.2.1 (by omega)) ?_
  rintro e w5 ⟨rfl, b5⟩
  have H5 : Hid (Below w4.heap.size w4 w5) := b5
  clear b5
  go_wp2_with fail
  refine Calls.mono (same_caps (H4.out.2.2.1.below H5.out) (H4.out.2.1.below H5.out) H4.out.2.2.2.1 H3.out.2.1 HRF.out.2 H4.out.2.2.2.2.1 (by omega)) ?_
  rintro e w6 ⟨rfl, b6⟩
  have H6 : Hid (Below w4.heap.size w4 w6 ∧ Below w1.heap.size w1 w6) := ⟨H5.out.trans (b6.mono H5.out.size), H4.out.2.2.2.2.2.trans ((H5.out.trans (b6.mono H5.out.size)).mono H4.out.2.2.2.2.2.size)⟩
  clear b6
  go_upto_region 7 with fail
  go_upto_if 84 with fail
  go_cut [] (fun wx => Hid (Caps wx w1.heap.size (.slice oa m oc) O1 ∧ Caps wx w3.heap.size (.slice ta m tc) T2 ∧ Below w.heap.size w wx ∧ w4.heap.size ≤ wx.heap.size))
  case first =>
    as_aux_lemma =>
      by_cases hn0 : 0 < n
      case neg =>
        have hz0 : n = 0 := by omega
        clear hn0
        subst hz0
        go_wp2
        go_meet
        exact ⟨H4.out.1.below H6.out.1, H4.out.2.2.1.below H6.out.1, H1.out.2.1.trans (H6.out.2.mono H1.out.2.1.size), H6.out.1.size⟩
      have z1 : decide ((0 : Int) < (n : Int)) = true := decide_eq_true (by omega)
      have z2 : decide (0 < n) = true := decide_eq_true hn0
      have z3 : (0 : Int) < (n : Int) := by omega
      have z4 : ¬ (n : Int) = 0 := by omega
      have z5 : ¬ n = 0 := by omega
      go_upto_region 9 with fail
      obtain ⟨tm, htm⟩ : ∃ x, x = at_.tmod (n : Int) := ⟨_, rfl⟩
      have htb : -(n : Int) < tm ∧ tm < (n : Int) := by
        rw [htm]
        have h1 := Int.tmod_lt_of_pos at_ z3
        have h2 : -(n : Int) < at_.tmod (n : Int) := by
          have h3 := Int.tmod_lt_of_pos (-at_) z3
          rw [Int.neg_tmod] at h3
          omega
        exact ⟨h2, h1⟩
      rw [← htm]
      obtain ⟨q, hq⟩ : ∃ q : Nat, (q : Int) = if tm < 0 then tm + (n : Int) else tm := ⟨(if tm < 0 then tm + (n : Int) else tm).toNat, by split <;> omega⟩
      have hqn : q < n := by have h1 := hq; split at h1 <;> omega
      clear htm
      go_upto_if 90 with fail
      go_cut [17] (fun x wx => x = .int .i64 (q : Int) ∧ w6 = wx)
      case first =>
        as_aux_lemma =>
          by_cases ht : tm < 0
          · have f1 : decide (tm < 0) = true := decide_eq_true ht
            have f2 : IntKind.i64.wrap (tm + (n : Int)) = tm + (n : Int) := i64_s _ (by omega) (by omega)
            rw [if_pos ht] at hq
            have HQ1 : Hid ((q : Int) = tm + (n : Int)) := hq
            clear hq
            go_wp2
            go_meet
            exact ⟨by rw [HQ1.out], rfl⟩
          · have f1 : decide (tm < 0) = false := decide_eq_false ht
            rw [if_neg ht] at hq
            have HQ1 : Hid ((q : Int) = tm) := hq
            clear hq
            go_wp2
            go_meet
            exact ⟨by rw [HQ1.out], rfl⟩
      case rest =>
        as_aux_lemma =>
          obtain ⟨rfl, rfl⟩ := hcut
          clear hq htb tm z1 z2
          have HW6 : Hid (RowM w6 w.heap.size (.slice ia n ic) bs) := .inl (by rw [HS.out.2.1]; exact Below.owns_ch H1.out.1 H6.out.2)
          obtain ⟨ib, hib, hibw, hc6, hf6, hx6⟩ := HW6.out.byte (j := q) (by rw [HS.out.2.1]; exact hqn)
          have hib2 : ib < w1.heap.size := (H1.out.1.kind ib (by rw [hib]; rfl)).2.1
          subst hib
          have hx256 : bs.getD q 0 < 256 := get256 HS.out.2.2.1 q
          obtain ⟨x, hx⟩ : ∃ x, x = bs.getD q 0 := ⟨_, rfl⟩
          rw [← hx] at hc6 hx256
          have hxo := xor1 x hx256
          have hyb := xor1_lt x hx256
          obtain ⟨y, hy⟩ : ∃ y, y = x ^^^ 1 := ⟨_, rfl⟩
          rw [← hy] at hxo hyb
          clear hy hx
          have q0 : (0 : Int) ≤ (q : Int) := by omega
          have q1 : (q : Int) < (n : Int) := by omega
          have q2 : ((q : Int)).toNat = q := by omega
          obtain ⟨w7, hw7⟩ : ∃ W, w6.setCell ⟨ib, q, none⟩ (.int .u8 (y : Int)) = W := ⟨_, rfl⟩
          have HW7 : Hid (w6.setCell ⟨ib, q, none⟩ (.int .u8 (y : Int)) = w7) := hw7
          obtain ⟨bt, hbt⟩ : ∃ l, l = bs.set q y := ⟨_, rfl⟩
          have kc : Ch (fun g => g = ib) w6 w7 := by rw [← hw7]; exact (Ch.refl (fun g => g = ib) w6).set ⟨ib, q, none⟩ _ rfl
          have H7 : Hid (Seg .u8 w7 (some ⟨ib, 0, none⟩) (toI bt) ∧ bt.length = n ∧ (∀ x ∈ bt, x < 256) ∧ Below w.heap.size w w7 ∧ Caps w7 w1.heap.size (.slice oa m oc) O1 ∧ Caps w7 w2.heap.size (.slice ma m mc) M1 ∧ Caps w7 w3.heap.size (.slice ta m tc) T2 ∧ w4.heap.size ≤ w7.heap.size) := by
            have h1 := H1.out.2.1.trans (H6.out.2.mono H1.out.2.1.size)
            have hz := HZ.out
            refine ⟨?_, by rw [hbt, List.length_set]; exact HS.out.2.1, ?_, h1.trans (kc.below (fun g e => by omega) h1.size), ?_, ?_, ?_, Nat.le_trans H6.out.1.size kc.size⟩
            · rw [hbt, ← hw7]; exact (hx6 y).seg
            · intro v hv
              rw [hbt] at hv
              rcases List.mem_or_eq_of_mem_set hv with hv | rfl
              · exact HS.out.2.2.1 v hv
              · exact hyb
            · exact (H4.out.1.below H6.out.1).ch kc (fun g hg e => by have := (H4.out.1.l.kind g hg).1; omega) (fun c hc g hg e => by have := ((H4.out.1.d c hc).kind g hg).1; omega)
            · exact (H4.out.2.1.below H6.out.1).ch kc (fun g hg e => by have := (H4.out.2.1.l.kind g hg).1; omega) (fun c hc g hg e => by have := ((H4.out.2.1.d c hc).kind g hg).1; omega)
            · exact (H4.out.2.2.1.below H6.out.1).ch kc (fun g hg e => by have := (H4.out.2.2.1.l.kind g hg).1; omega) (fun c hc g hg e => by have := ((H4.out.2.2.1.d c hc).kind g hg).1; omega)
          clear hw7 kc hx6 hbt
          go_upto_region 12 with fail
          rw [HW7.out]
          clear hc6 hf6 hxo
          go_upto_region 13 with (first | (at_builtin; refine append_own rfl (.const _) (.tmp 103) rfl w7.heap.size (.slice none 0 0) [] rfl (World.ownsRow_nil _ _ _ _) (some ⟨ib, 0, none⟩) n ic bt rfl H7.out.2.1 H7.out.1 (by simp; omega) (Nat.le_refl _) ?_))
          intro v8 w8 ho8 hk8 _
          replace ho8 : OwnB w8 w7.heap.size v8 bt.length bt := by simpa using ho8
          have ho8' := ho8
          unfold OwnB at ho8'
          obtain ⟨wa, wc, hv8, hsg8, _, hwc, _⟩ := owns_seg ho8'
          rw [H7.out.2.1] at hv8 hwc
          subst hv8
          have H8 : Hid (Below w7.heap.size w7 w8 ∧ Seg .u8 w8 wa (toI bt) ∧ n ≤ wc) := ⟨hk8.below (fun q hq => by simp [Value.ownBlock] at hq) (Nat.le_refl _), hsg8, hwc⟩
          clear ho8 ho8' hk8 hsg8 hwc
          obtain ⟨E2, hE⟩ : ∃ E, E = (rdA bt).2.1 := ⟨_, rfl⟩
          obtain ⟨P2, hP⟩ : ∃ P, P = (rdA bt).2.2 := ⟨_, rfl⟩
          obtain ⟨ct, hcs⟩ : ∃ c, c = (rdA bt).1 := ⟨_, rfl⟩
          have HRG : Hid (ct.length ≤ 1048576 ∧ ∀ c ∈ ct, ∀ x ∈ c.2.2.2, x < 256) := by
            have h1 := rdA_facts bt H7.out.2.2.1
            rw [hcs]
            exact ⟨by have h2 := h1.2.1; rw [H7.out.2.1] at h2; omega, h1.2.2.1⟩
          have Q2 : Hid _ := read_any w8 (some ⟨ib, 0, none⟩) n ic bt H7.out.2.1 H1.out.2.2.2 (by omega) (H7.out.1.old H8.out.1) H7.out.2.2.1
          have Q3 : Hid (∀ W : World, Below w8.heap.size w8 W → Calls Try.prog 7 #[.slice wa n wc] W fun e w' => Below W.heap.size W w' ∧ ∃ v L, Caps w' W.heap.size v L ∧ L.map cvt = (rdA bt).1 ∧ e = .returned (.tuple #[v, .int .i64 (rdA bt).2.1, .int .i64 (rdA bt).2.2])) := fun W hW => rread_any W wa n wc bt H7.out.2.1 H8.out.2.2 (by omega) (H8.out.2.1.old hW) H7.out.2.2.1
          rw [← hE, ← hP, ← hcs] at Q2 Q3
          clear hE hP hcs
          go_wp2_with fail
          refine Calls.mono Q2.out ?_
          rintro e w9 ⟨b9, v9, X9, hX9, hXm, rfl⟩
          clear Q2
          obtain ⟨m2, hm2⟩ : ∃ m, m = ct.length := ⟨_, rfl⟩
          have hmb2 : m2 ≤ 1048576 := by rw [hm2]; exact HRG.out.1
          have HM2 : Hid (m2 = ct.length) := hm2
          clear hm2
          have hlX : X9.length = m2 := by have h1 := congrArg List.length hXm; rw [List.length_map] at h1; have h2 := HM2.out; omega
          obtain ⟨xa, xc, hv9⟩ := hX9.l.form
          rw [hlX] at hv9
          subst hv9
          have H9 : Hid (Caps w9 w8.heap.size (.slice xa m2 xc) X9 ∧ X9.map cvt = ct ∧ X9.length = m2 ∧ Below w8.heap.size w8 w9) := ⟨hX9, hXm, hlX, b9⟩
          clear hX9 hXm hlX b9
          go_wp2_with fail
          refine Calls.mono (Q3.out w9 H9.out.2.2.2) ?_
          rintro e wa0 ⟨ba0, va0, Y0, hY0, hYm, rfl⟩
          clear Q3
          have hlY : Y0.length = m2 := by have h1 := congrArg List.length hYm; rw [List.length_map] at h1; have h2 := HM2.out; omega
          obtain ⟨ya, yc, hva0⟩ := hY0.l.form
          rw [hlY] at hva0
          subst hva0
          have HA0 : Hid (Caps wa0 w8.heap.size (.slice xa m2 xc) X9 ∧ Caps wa0 w9.heap.size (.slice ya m2 yc) Y0 ∧ Y0.map cvt = ct ∧ Below w7.heap.size w7 wa0) := ⟨H9.out.1.below ba0, hY0, hYm, (H8.out.1.trans (H9.out.2.2.2.mono H8.out.1.size)).trans (ba0.mono (Nat.le_trans H8.out.1.size H9.out.2.2.2.size))⟩
          clear hY0 hYm hlY ba0
          go_wp2_with fail
          refine Calls.mono (same_caps HA0.out.1 HA0.out.2.1 H9.out.2.1 HA0.out.2.2.1 HRG.out.2 H9.out.2.2.1 (by omega)) ?_
          rintro e wb0 ⟨rfl, bb0⟩
          have HB0 : Hid (Below w7.heap.size w7 wb0) := HA0.out.2.2.2.trans (bb0.mono HA0.out.2.2.2.size)
          clear bb0
          go_wp2_with fail
          refine Calls.mono (same_caps (H7.out.2.2.2.2.1.below HB0.out) (H7.out.2.2.2.2.2.1.below HB0.out) H2.out.2.1 H3.out.2.1 HRF.out.2 H2.out.2.2.1 (by omega)) ?_
          rintro e wc0 ⟨rfl, bc0⟩
          have HC0 : Hid (Below w7.heap.size w7 wc0) := HB0.out.trans (bc0.mono HB0.out.size)
          clear bc0
          go_wp2_with fail
          refine Calls.mono (same_caps (H7.out.2.2.2.2.2.2.1.below HC0.out) (H7.out.2.2.2.2.2.1.below HC0.out) H4.out.2.2.2.1 H3.out.2.1 HRF.out.2 H4.out.2.2.2.2.1 (by omega)) ?_
          rintro e wd0 ⟨rfl, bd0⟩
          have HD0 : Hid (Below w7.heap.size w7 wd0) := HC0.out.trans (bd0.mono HC0.out.size)
          clear bd0
          go_wp2
          go_meet
          exact ⟨H7.out.2.2.2.2.1.below HD0.out, H7.out.2.2.2.2.2.2.1.below HD0.out, H7.out.2.2.2.1.trans (HD0.out.mono H7.out.2.2.2.1.size), Nat.le_trans H7.out.2.2.2.2.2.2.2 HD0.out.size⟩
  case rest =>
    as_aux_lemma =>
      have HK : Hid (Caps wc w1.heap.size (.slice oa m oc) O1 ∧ Caps wc w3.heap.size (.slice ta m tc) T2 ∧ Below w.heap.size w wc ∧ w4.heap.size ≤ wc.heap.size) := hcut.out
      clear hcut
      have HT : Hid (O1.length = m ∧ T2.length = m ∧ O1.map cvt = cs ∧ T2.map cvt = cs) := ⟨H2.out.2.2.1, H4.out.2.2.2.2.1, H2.out.2.1, H4.out.2.2.2.1⟩
      have HRT : Hid (∀ c ∈ T2, ∀ q, c.v.ownBlock = some q → w3.heap.size ≤ q ∧ q < w4.heap.size) := fun c hc q hq => ⟨((H4.out.2.2.1.d c hc).kind q hq).1, H4.out.2.2.1.lt c hc q hq⟩
      clear H2 H3 H4 H5 H6 H1
      have QM : Hid _ := marked_any wc la p lc L (HU.out.1.old HK.out.2.2.1) HU.out.2.1 (by omega) HU.out.2.2.1
      go_wp2_with fail
      refine Calls.mono QM.out ?_
      rintro e w7 ⟨b7, iv, E1, hE, hEm, hEx, rfl⟩
      clear QM
      have hEl : E1.length = p := by have h1 := congrArg List.length hEm; rw [List.length_map, List.length_map, HU.out.2.1] at h1; exact h1
      have h256 : ∀ c ∈ E1, ∀ x ∈ c.1.d, x < 256 := fun c hc x hx => by
        have h1 : cvt c.1 ∈ L.map cvt := by rw [← hEm]; exact List.mem_map.2 ⟨c, hc, rfl⟩
        exact HU.out.2.2.2 _ h1 x hx
      obtain ⟨fa, fc, hiv, hini⟩ := hE.inn h256
      rw [hEl] at hiv
      subst hiv
      have H7 : Hid (CapsX w7 wc.heap.size (.slice fa p fc) E1 ∧ E1.map (fun e => cvt e.1) = L.map cvt ∧ E1.length = p ∧ Below wc.heap.size wc w7 ∧ Below w.heap.size w w7) := ⟨hE, hEm, hEl, b7, HK.out.2.2.1.trans (b7.mono HK.out.2.2.1.size)⟩
      have HIN : Hid (CapsIn w7 fa (E1.map Prod.fst)) := hini
      clear hE hEm hEx b7 h256 hini hEl
      obtain ⟨out, hout⟩ : ∃ x, x = (wrA (L.map cvt)).1 := ⟨_, rfl⟩
      obtain ⟨er, her⟩ : ∃ x, x = (wrA (L.map cvt)).2 := ⟨_, rfl⟩
      have HW : Hid ((∀ x ∈ out, x < 256) ∧ out.length ≤ 140000000000) := ⟨by rw [hout]; exact wrA_256 _ HU.out.2.2.2, by
        have h1 := wrA_len (L.map cvt)
        rw [List.length_map, HU.out.2.1, ← hout] at h1
        omega⟩
      have QW : Hid (∀ W : World, Below w7.heap.size w7 W → Calls Try.prog 9 #[.slice fa p fc] W fun e w' => Below W.heap.size W w' ∧ ∃ v, RowW w' W.heap.size v (wrA (L.map cvt)).1 ∧ e = .returned (.tuple #[v, .int .i64 (wrA (L.map cvt)).2])) := fun W hW => by
        have h1 := write_any W fa p fc (E1.map Prod.fst) (HIN.out.old hW) (by rw [List.length_map]; exact H7.out.2.2.1) (by omega)
        rw [List.map_map, show (cvt ∘ Prod.fst : FX → CV) = (fun e => cvt e.1) from rfl, H7.out.2.1] at h1
        exact h1
      have QV : Hid (∀ W : World, Below w.heap.size w W → Calls Try.prog 11 #[.slice la p lc] W fun e w' => Below W.heap.size W w' ∧ ∃ v, RowW w' W.heap.size v (wrA (L.map cvt)).1 ∧ e = .returned (.tuple #[v, .int .i64 (wrA (L.map cvt)).2])) := fun W hW => rwrite_any W la p lc L (HU.out.1.old hW) HU.out.2.1 (by omega)
      rw [← hout, ← her] at QW QV
      clear hout her
      go_wp2_with fail
      refine Calls.mono (QW.out w7 (Below.refl _ _)) ?_
      rintro e w8 ⟨b8, v8, hv8, rfl⟩
      obtain ⟨N, hN⟩ : ∃ N, N = out.length := ⟨_, rfl⟩
      have HN : Hid (N = out.length) := hN
      obtain ⟨ra, rc, hf8, _⟩ := hv8.form
      rw [← hN] at hf8
      subst hf8
      clear hN
      have H8 : Hid (RowW w8 w7.heap.size (.slice ra N rc) out ∧ Below w7.heap.size w7 w8) := ⟨hv8, b8⟩
      clear hv8 b8
      go_wp2_with fail
      refine Calls.mono (QW.out w8 H8.out.2) ?_
      rintro e w9 ⟨b9, v9, hv9, rfl⟩
      clear QW
      obtain ⟨sa, sc, hf9, _⟩ := hv9.form
      rw [← HN.out] at hf9
      subst hf9
      have H9 : Hid (RowW w9 w7.heap.size (.slice ra N rc) out ∧ RowW w9 w8.heap.size (.slice sa N sc) out ∧ Below w8.heap.size w8 w9 ∧ Below w7.heap.size w7 w9 ∧ Below w.heap.size w w9) := by
        have h1 := H8.out.2.trans (b9.mono H8.out.2.size)
        exact ⟨H8.out.1.below b9, hv9, b9, h1, H7.out.2.2.2.2.trans (h1.mono H7.out.2.2.2.2.size)⟩
      clear hv9 b9
      go_wp2_with fail
      refine Calls.mono (QV.out w9 H9.out.2.2.2.2) ?_
      rintro e wA ⟨bA, vA, hvA, rfl⟩
      clear QV
      obtain ⟨da, dc, hfA, _⟩ := hvA.form
      rw [← HN.out] at hfA
      subst hfA
      have HA : Hid (RowW wA w7.heap.size (.slice ra N rc) out ∧ RowW wA w8.heap.size (.slice sa N sc) out ∧ RowW wA w9.heap.size (.slice da N dc) out ∧ Below w7.heap.size w7 wA ∧ Below wc.heap.size wc wA ∧ Below w.heap.size w wA) := by
        have h1 := H9.out.2.2.2.1.trans (bA.mono H9.out.2.2.2.1.size)
        exact ⟨H9.out.1.below bA, H9.out.2.1.below bA, hvA, h1, H7.out.2.2.2.1.trans (h1.mono H7.out.2.2.2.1.size), H7.out.2.2.2.2.trans (h1.mono H7.out.2.2.2.2.size)⟩
      have HZZ : Hid (w.heap.size ≤ w1.heap.size ∧ w1.heap.size ≤ w2.heap.size ∧ w2.heap.size ≤ w3.heap.size ∧ w3.heap.size ≤ w4.heap.size ∧ w4.heap.size ≤ wc.heap.size ∧ wc.heap.size ≤ w7.heap.size ∧ w7.heap.size ≤ w8.heap.size ∧ w8.heap.size ≤ w9.heap.size ∧ w9.heap.size ≤ wA.heap.size) := ⟨HW1.out, HZ.out.1, HZ.out.2.1, HZ.out.2.2, HK.out.2.2.2, H7.out.2.2.2.1.size, H8.out.2.size, H9.out.2.2.1.size, bA.size⟩
      have HFR : Hid ((∀ q, (Value.slice ra N rc).ownBlock = some q → w7.heap.size ≤ q ∧ q < w8.heap.size) ∧ ∀ q, (Value.slice sa N sc).ownBlock = some q → w8.heap.size ≤ q ∧ q < w9.heap.size) := ⟨fun q hq => H8.out.1.lt q hq, fun q hq => H9.out.2.1.lt q hq⟩
      clear hvA bA
      have k1 := conv_any wA ra rc out HA.out.1.seg HW.out.1
      have k2 := conv_any wA sa sc out HA.out.2.1.seg HW.out.1
      have k3 := conv_any wA da dc out HA.out.2.2.1.seg HW.out.1
      rw [← HN.out] at k1 k2 k3
      obtain ⟨s, hs⟩ : ∃ s, s = strOf out := ⟨_, rfl⟩
      rw [← hs] at k1 k2 k3
      clear hs
      go_upto_region 23 with fail
      clear k1 k2 k3
      have QM : Hid _ := marked_any wA la p lc L (HU.out.1.old HA.out.2.2.2.2.2) HU.out.2.1 (by omega) HU.out.2.2.1
      go_wp2_with fail
      refine Calls.mono QM.out ?_
      rintro e wB ⟨bB, uv, E2, hE, hEm, hEx, rfl⟩
      clear QM
      have hEl : E2.length = p := by have h1 := congrArg List.length hEm; rw [List.length_map, List.length_map, HU.out.2.1] at h1; exact h1
      obtain ⟨ua, uc, huv⟩ := hE.l.form
      rw [hEl] at huv
      subst huv
      have HB : Hid (CapsX wB wA.heap.size (.slice ua p uc) E2 ∧ E2.map (fun e => cvt e.1) = L.map cvt ∧ E2.length = p ∧ Below wA.heap.size wA wB) := ⟨hE, hEm, hEl, bB⟩
      clear hE hEm hEx hEl bB
      have HGL : Hid (∀ q, (Value.slice fa p fc).ownBlock = some q → wc.heap.size ≤ q ∧ q < w7.heap.size) := fun q hq => ⟨(H7.out.1.l.kind q hq).1, (H7.out.1.l.kind q hq).2.1⟩
      have HUL : Hid (∀ q, (Value.slice ua p uc).ownBlock = some q → wA.heap.size ≤ q) := fun q hq => (HB.out.1.l.kind q hq).1
      go_wp2_with fail
      go_loopw [30] (fun ix wr => ∃ (k : Nat) (E1 E2 : List FX), ix = .int .i64 (k : Nat) ∧ k ≤ p ∧ Hid (Tw wc.heap.size w7.heap.size fa p fc ua uc wA wr E1 E2)) (fun ix _ => p - (intOf ix).toNat)
      case atStart =>
        refine ⟨0, E1, E2, rfl, Nat.zero_le _, ?_⟩
        have h1 := HA.out.2.2.2.1.trans (HB.out.2.2.2.mono HA.out.2.2.2.1.size)
        exact ⟨H7.out.1.below h1, HB.out.1, by rw [H7.out.2.1, HB.out.2.1], by rw [H7.out.2.1]; exact HU.out.2.2.2, H7.out.2.2.1, fun e he q hq => (H7.out.1.lt e he q hq).2, Ch.ofBelow HB.out.2.2.2⟩
      case round =>
        clear HIN
        obtain ⟨k, E1, E2, rfl, hk, HI⟩ := hrel
        by_cases hin : k < p
        · as_aux_lemma =>
            have p1 : decide ((k : Int) < (p : Int)) = true := decide_eq_true (by omega)
            have p2 : decide (k < p) = true := decide_eq_true hin
            have i0 : (0 : Int) ≤ (k : Int) := by omega
            have i1 : (k : Int) < (p : Int) := by omega
            have i2 : ((k : Int)).toNat = k := by omega
            have wk1 : IntKind.i64.wrap ((k : Int) + 1) = (k : Int) + 1 := i64_s _ (by omega) (by omega)
            obtain ⟨e1, e2, he1, he2, hee⟩ := HI.out.at hin
            obtain ⟨g1, c1', hv1, _, hg1, hgc1, _⟩ := HI.out.x.at he1
            obtain ⟨g2, c2', hv2, _, hg2, hgc2, _⟩ := HI.out.y.at he2
            simp only [Value.slice.injEq] at hv1 hv2
            obtain ⟨rfl, hn1_, hc1_⟩ := hv1
            obtain ⟨rfl, hn2_, hc2_⟩ := hv2
            clear hn1_ hc1_ hn2_ hc2_
            have hdd : e1.1.d = e2.1.d := congrArg (fun c => c.2.2.2) hee
            obtain ⟨q, hq⟩ : ∃ q, e1.1.d.length = q := ⟨_, rfl⟩
            have c3 : wr.cell? ⟨g1, k * 4 + 3, none⟩ = some (.slice e1.1.a q e1.1.cap) := by rw [hgc1 3 (by decide), ← hq]; rfl
            have d3 : wr.cell? ⟨g2, k * 4 + 3, none⟩ = some (.slice e2.1.a q e2.1.cap) := by rw [hgc2 3 (by decide), ← hq, hdd]; rfl
            have HE : Hid (E1[k]? = some e1 ∧ E2[k]? = some e2 ∧ cvt e1.1 = cvt e2.1 ∧ e1.1.d.length = q ∧ e2.1.d.length = q ∧ e1.1.d = e2.1.d ∧ g1 < wr.heap.size ∧ g2 < wr.heap.size) := ⟨he1, he2, hee, hq, by rw [← hdd]; exact hq, hdd, hg1, hg2⟩
            clear he1 he2 hee hgc1 hgc2 hdd hq hg1 hg2
            by_cases hq0 : 0 < q
            case neg =>
              have hz0 : q = 0 := by omega
              clear hq0
              subst hz0
              go_wp2
              go_roundw
              case rel => exact ⟨k + 1, E1, E2, by go_num, by omega, HI.out⟩
              case measure => simp [intOf]; omega
            have f1 : decide ((0 : Int) < (q : Int)) = true := decide_eq_true (by omega)
            have f2 : decide (0 < q) = true := decide_eq_true hq0
            have f3 : (0 : Int) < (q : Int) := by omega
            obtain ⟨b1, hb1, hbb1, hcb1, hfb1, hbx1⟩ := HI.out.x.byte HE.out.1 (j := 0) (by rw [HE.out.2.2.2.1]; exact hq0)
            obtain ⟨b2, hb2, hbb2, hcb2, hfb2, hbx2⟩ := HI.out.y.byte HE.out.2.1 (j := 0) (by rw [HE.out.2.2.2.2.1]; exact hq0)
            obtain ⟨x, hx⟩ : ∃ x, x = e1.1.d.getD 0 0 := ⟨_, rfl⟩
            have hx256 : x < 256 := by
              rw [hx]
              refine get256 (fun v hv => ?_) 0
              exact HI.out.b8 (cvt e1.1) (List.mem_map.2 ⟨e1, List.mem_of_getElem? HE.out.1, rfl⟩) v hv
            have hxo := xor1 x hx256
            have hyb := xor1_lt x hx256
            obtain ⟨y, hy⟩ : ∃ y, y = x ^^^ 1 := ⟨_, rfl⟩
            rw [← hy] at hxo hyb
            rw [hb1] at c3
            rw [hb2] at d3
            have HP0 : Hid (e1.1.a = some ⟨b1, 0, none⟩ ∧ e2.1.a = some ⟨b2, 0, none⟩ ∧ x = e1.1.d.getD 0 0 ∧ y < 256 ∧ wc.heap.size ≤ b1 ∧ wA.heap.size ≤ b2 ∧ b1 < w7.heap.size) := ⟨hb1, hb2, hx, hyb, hbb1, hbb2, HI.out.lo e1 (List.mem_of_getElem? HE.out.1) b1 (by unfold fxV; rw [hb1]; rfl)⟩
            clear hbx1 hbx2 hb1 hb2 hbb1 hbb2 hcb1 hcb2 hfb1 hfb2 hyb hy hx
            go_upto_region 28 with fail
            clear f1 f2
            refine MixH.start (fun A => (A).cell? ⟨g1, k * 4 + 3, none⟩ = some (.slice (some ⟨b1, 0, none⟩) q e1.1.cap)) (by kernel_rfl) ?_
            obtain ⟨wD, hwA⟩ : ∃ W_, W_ = wr.drew := ⟨_, rfl⟩
            have bdr : Below wr.heap.size wr wD := by rw [hwA]; exact (Below.refl _ _).drew
            have hS : wD.cell? ⟨g1, k * 4 + 3, none⟩ = some (.slice (some ⟨b1, 0, none⟩) q e1.1.cap) := (bdr.cell (p := ⟨g1, k * 4 + 3, none⟩) HE.out.2.2.2.2.2.2.1).trans c3
            have HD : Hid (Below wr.heap.size wr wD ∧ CapsX wD wc.heap.size (.slice (some ⟨g1, 0, none⟩) p fc) E1) := ⟨bdr, HI.out.x.below bdr⟩
            obtain ⟨b1', hb1, _, hcb, hfb, _⟩ := HD.out.2.byte HE.out.1 (j := 0) (by rw [HE.out.2.2.2.1]; exact hq0)
            rw [HP0.out.1] at hb1
            simp only [Option.some.injEq, Addr.mk.injEq, and_true] at hb1
            subst hb1
            rw [← HP0.out.2.2.1] at hcb
            have HGB : Hid (g1 ≠ b1) := fun e => HD.out.2.apart e1 (List.mem_of_getElem? HE.out.1) b1 (by unfold fxV; rw [HP0.out.1]; rfl) (by rw [e]; rfl)
            rw [← hwA]
            clear hwA bdr
            refine MixH.takes [true, true, true, true, false, true, true, true, true] 7 (by kernel_rfl) (by kernel_rfl) (by decide) (by kernel_rfl) hS (fun K hK => ?_)
            simp only [Mix.pick]
            repeat (go_big_quiet_step (fail))
            refine wpQuiet_nil (hK _ ?_)
            clear hK K
            refine MixH.take 6 4 _ (.slice (some ⟨b1, 0, none⟩) q e1.1.cap) rfl (by kernel_rfl) (by kernel_rfl) (by kernel_rfl) (by kernel_rfl) (yields_row (.tmp 200) rfl ⟨g1, k * 4 + 3, none⟩ (.slice (some ⟨b1, 0, none⟩) q e1.1.cap) rfl rfl (fun A hA => hA)) hS (fun a' ha => ?_)
            simp only [Act.put, List.setIfInBounds_toArray, List.set_cons_succ, List.set_cons_zero] at ha
            subst ha
            refine MixH.take 5 9 _ (.slice (some ⟨b1, 0, none⟩) q e1.1.cap) rfl (by kernel_rfl) (by kernel_rfl) (by kernel_rfl) (by kernel_rfl) (yields_row (.tmp 205) rfl ⟨g1, k * 4 + 3, none⟩ (.slice (some ⟨b1, 0, none⟩) q e1.1.cap) rfl rfl (fun A hA => hA)) hS (fun a' ha => ?_)
            simp only [Act.put, List.setIfInBounds_toArray, List.set_cons_succ, List.set_cons_zero] at ha
            subst ha
            refine MixH.takes [false, false, false, false, false, false, false, false, false, false, true] 4 (by kernel_rfl) (by kernel_rfl) (by decide) (by kernel_rfl) hS (fun K hK => ?_)
            simp only [Mix.pick]
            repeat (go_big_quiet_step (fail))
            refine wpQuiet_nil (hK _ ?_)
            clear hK K
            refine MixH.one [false, false, false, false, false, false, false, false, false, false, false, true] 3 11 _ rfl rfl (by kernel_rfl) (by kernel_rfl) (fun K hK => ?_)
            simp only [Mix.pick]
            go_wp2_with fail
            refine ⟨rfl, hK _ _ hS ?_⟩
            clear hK K
            refine MixH.takes [false, false, false, false, false, false, false, false, false, false, false, false, true, true] 1 (by kernel_rfl) (by kernel_rfl) (by decide) (by kernel_rfl) hS (fun K hK => ?_)
            simp only [Mix.pick]
            repeat (go_big_quiet_step (fail))
            refine wpQuiet_nil (hK _ ?_)
            clear hK K
            refine MixH.one [false, false, false, false, false, false, false, false, false, false, false, false, false, false, true] 0 14 _ rfl rfl (by kernel_rfl) (by kernel_rfl) (fun K hK => ?_)
            simp only [Mix.pick]
            go_wp2_with fail
            have hS2 : (wD.setCell ⟨b1, 0, none⟩ (.int .u8 (y : Int))).cell? ⟨g1, k * 4 + 3, none⟩ = some (.slice (some ⟨b1, 0, none⟩) q e1.1.cap) := by
              have kc : Ch (fun q => q = b1) wD (wD.setCell ⟨b1, 0, none⟩ (.int .u8 (y : Int))) := (Ch.refl (fun q => q = b1) wD).set ⟨b1, 0, none⟩ _ rfl
              exact kc.cell (p := ⟨g1, k * 4 + 3, none⟩) hS (fun e => HGB.out e)
            clear hS
            have hS := hS2
            clear hS2
            refine ⟨rfl, hK _ _ hS ?_⟩
            clear hK K
            refine MixH.done (by kernel_rfl) ?_
            clear hS hcb hfb
            go_upto_region 29 with fail
            obtain ⟨wE, hwE⟩ : ∃ W, wD.setCell ⟨b1, 0, none⟩ (.int .u8 (y : Int)) = W := ⟨_, rfl⟩
            have HWE : Hid (wD.setCell ⟨b1, 0, none⟩ (.int .u8 (y : Int)) = wE) := hwE
            rw [hwE]
            clear hwE
            have HYE : Hid (CapsX wE wA.heap.size (.slice (some ⟨g2, 0, none⟩) p uc) E2) := HI.out.mid (Nat.le_trans (Nat.le_trans HZZ.out.2.2.2.2.2.2.1 HZZ.out.2.2.2.2.2.2.2.1) HZZ.out.2.2.2.2.2.2.2.2) HD.out.1 HP0.out.2.2.2.2.2.2 (q := 0) (v := .int .u8 (y : Int)) (by rw [HWE.out]; exact Below.refl _ _)
            obtain ⟨_, _, hv_, _, hg2e, hgc_, _⟩ := HYE.out.at HE.out.2.1
            have d4 : wE.cell? ⟨g2, k * 4 + 3, none⟩ = some (.slice (some ⟨b2, 0, none⟩) q e2.1.cap) := by
              simp only [Value.slice.injEq, Option.some.injEq, Addr.mk.injEq, and_true] at hv_
              rw [hv_.1, hgc_ 3 (by decide), ← HE.out.2.2.2.2.1, ← HP0.out.2.1]
              rfl
            have HG2 : Hid (g2 < wE.heap.size) := (Array.getElem?_eq_some_iff.1 (HYE.out.l.kind g2 rfl).2.2.choose_spec).1
            clear hv_ hg2e hgc_ d3 c3
            refine MixH.start (fun A => (A).cell? ⟨g2, k * 4 + 3, none⟩ = some (.slice (some ⟨b2, 0, none⟩) q e2.1.cap)) (by kernel_rfl) ?_
            obtain ⟨wF, hwA⟩ : ∃ W_, W_ = wE.drew := ⟨_, rfl⟩
            have bdr : Below wE.heap.size wE wF := by rw [hwA]; exact (Below.refl _ _).drew
            have hS : wF.cell? ⟨g2, k * 4 + 3, none⟩ = some (.slice (some ⟨b2, 0, none⟩) q e2.1.cap) := (bdr.cell (p := ⟨g2, k * 4 + 3, none⟩) HG2.out).trans d4
            have HF : Hid (Below wE.heap.size wE wF ∧ CapsX wF wA.heap.size (.slice (some ⟨g2, 0, none⟩) p uc) E2) := ⟨bdr, HYE.out.below bdr⟩
            obtain ⟨b2', hb2, _, hcb, hfb, _⟩ := HF.out.2.byte HE.out.2.1 (j := 0) (by rw [HE.out.2.2.2.2.1]; exact hq0)
            rw [HP0.out.2.1] at hb2
            simp only [Option.some.injEq, Addr.mk.injEq, and_true] at hb2
            subst hb2
            rw [← HE.out.2.2.2.2.2.1, ← HP0.out.2.2.1] at hcb
            have HGB2 : Hid (g2 ≠ b2) := fun e => HF.out.2.apart e2 (List.mem_of_getElem? HE.out.2.1) b2 (by unfold fxV; rw [HP0.out.2.1]; rfl) (by rw [e]; rfl)
            rw [← hwA]
            clear hwA bdr
            refine MixH.takes [true, true, true, true, false, true, true, true, true] 7 (by kernel_rfl) (by kernel_rfl) (by decide) (by kernel_rfl) hS (fun K hK => ?_)
            simp only [Mix.pick]
            repeat (go_big_quiet_step (fail))
            refine wpQuiet_nil (hK _ ?_)
            clear hK K
            refine MixH.take 6 4 _ (.slice (some ⟨b2, 0, none⟩) q e2.1.cap) rfl (by kernel_rfl) (by kernel_rfl) (by kernel_rfl) (by kernel_rfl) (yields_row (.tmp 214) rfl ⟨g2, k * 4 + 3, none⟩ (.slice (some ⟨b2, 0, none⟩) q e2.1.cap) rfl rfl (fun A hA => hA)) hS (fun a' ha => ?_)
            simp only [Act.put, List.setIfInBounds_toArray, List.set_cons_succ, List.set_cons_zero] at ha
            subst ha
            refine MixH.take 5 9 _ (.slice (some ⟨b2, 0, none⟩) q e2.1.cap) rfl (by kernel_rfl) (by kernel_rfl) (by kernel_rfl) (by kernel_rfl) (yields_row (.tmp 219) rfl ⟨g2, k * 4 + 3, none⟩ (.slice (some ⟨b2, 0, none⟩) q e2.1.cap) rfl rfl (fun A hA => hA)) hS (fun a' ha => ?_)
            simp only [Act.put, List.setIfInBounds_toArray, List.set_cons_succ, List.set_cons_zero] at ha
            subst ha
            refine MixH.takes [false, false, false, false, false, false, false, false, false, false, true] 4 (by kernel_rfl) (by kernel_rfl) (by decide) (by kernel_rfl) hS (fun K hK => ?_)
            simp only [Mix.pick]
            repeat (go_big_quiet_step (fail))
            refine wpQuiet_nil (hK _ ?_)
            clear hK K
            refine MixH.one [false, false, false, false, false, false, false, false, false, false, false, true] 3 11 _ rfl rfl (by kernel_rfl) (by kernel_rfl) (fun K hK => ?_)
            simp only [Mix.pick]
            go_wp2_with fail
            refine ⟨rfl, hK _ _ hS ?_⟩
            clear hK K
            refine MixH.takes [false, false, false, false, false, false, false, false, false, false, false, false, true, true] 1 (by kernel_rfl) (by kernel_rfl) (by decide) (by kernel_rfl) hS (fun K hK => ?_)
            simp only [Mix.pick]
            repeat (go_big_quiet_step (fail))
            refine wpQuiet_nil (hK _ ?_)
            clear hK K
            refine MixH.one [false, false, false, false, false, false, false, false, false, false, false, false, false, false, true] 0 14 _ rfl rfl (by kernel_rfl) (by kernel_rfl) (fun K hK => ?_)
            simp only [Mix.pick]
            go_wp2_with fail
            have hS2 : (wF.setCell ⟨b2, 0, none⟩ (.int .u8 (y : Int))).cell? ⟨g2, k * 4 + 3, none⟩ = some (.slice (some ⟨b2, 0, none⟩) q e2.1.cap) := by
              have kc : Ch (fun q => q = b2) wF (wF.setCell ⟨b2, 0, none⟩ (.int .u8 (y : Int))) := (Ch.refl (fun q => q = b2) wF).set ⟨b2, 0, none⟩ _ rfl
              exact kc.cell (p := ⟨g2, k * 4 + 3, none⟩) hS (fun e => HGB2.out e)
            clear hS
            have hS := hS2
            clear hS2
            refine ⟨rfl, hK _ _ hS ?_⟩
            clear hK K
            refine MixH.done (by kernel_rfl) ?_
            clear hS hcb hfb d4
            have HTW : Hid _ := HI.out.both (Nat.le_trans (Nat.le_trans HZZ.out.2.2.2.2.2.2.1 HZZ.out.2.2.2.2.2.2.2.1) HZZ.out.2.2.2.2.2.2.2.2) (fun q hq => (HGL.out q hq).2) HD.out.1 HE.out.1 HE.out.2.1 HE.out.2.2.1 (by rw [HE.out.2.2.2.1]; exact hq0) HP0.out.1 HP0.out.2.1 HP0.out.2.2.2.1 (wE := wF) (by rw [HWE.out]; exact HF.out.1)
            go_wp2
            go_roundw
            case rel => exact ⟨k + 1, _, _, by go_num, by omega, HTW.out⟩
            case measure => simp [intOf]; omega
        · as_aux_lemma =>
            have p1 : decide ((k : Int) < (p : Int)) = false := decide_eq_false (by omega)
            have p2 : decide (k < p) = false := decide_eq_false hin
            clear hin
            obtain ⟨WL, hWL⟩ : ∃ W, W = wr := ⟨_, rfl⟩
            rw [← hWL] at HI ⊢
            clear hWL
            have HX : Hid (Caps WL w1.heap.size (.slice oa m oc) O1 ∧ Caps WL w3.heap.size (.slice ta m tc) T2 ∧ RowW WL w7.heap.size (.slice ra N rc) out ∧ RowW WL w8.heap.size (.slice sa N sc) out ∧ Below w.heap.size w WL ∧ wA.heap.size ≤ WL.heap.size) := by
              have hz := HZZ.out
              refine ⟨(HK.out.1.below HA.out.2.2.2.2.1).ch HI.out.k (fun g hg e => ?_) (fun c hc g hg e => ?_), (HK.out.2.1.below HA.out.2.2.2.2.1).ch HI.out.k (fun g hg e => ?_) (fun c hc g hg e => ?_), HA.out.1.ch HI.out.k (fun g hg e => ?_), HA.out.2.1.ch HI.out.k (fun g hg e => ?_), HA.out.2.2.2.2.2.trans (HI.out.k.below (fun q hq => by omega) HA.out.2.2.2.2.2.size), HI.out.k.size⟩
              · have := (HK.out.1.l.kind g hg).2.1; omega
              · have := HK.out.1.lt c hc g hg; omega
              · have := (HK.out.2.1.l.kind g hg).2.1; omega
              · have := HK.out.2.1.lt c hc g hg; omega
              · have := HFR.out.1 g hg; omega
              · have := HFR.out.2 g hg; omega
            obtain ⟨c1, hc1⟩ : ∃ c, c = E1.map (fun e => cvt e.1) := ⟨_, rfl⟩
            obtain ⟨out2, hout⟩ : ∃ x, x = (wrA c1).1 := ⟨_, rfl⟩
            obtain ⟨er2, her⟩ : ∃ x, x = (wrA c1).2 := ⟨_, rfl⟩
            have HW2 : Hid ((∀ x ∈ out2, x < 256) ∧ out2.length ≤ 140000000000) := by
              have hb := HI.out.b8
              rw [← hc1] at hb
              refine ⟨by rw [hout]; exact wrA_256 _ hb, ?_⟩
              have h1 := wrA_len c1
              rw [← hout] at h1
              have h2 : c1.length = p := by rw [hc1, List.length_map]; exact HI.out.n
              rw [h2] at h1
              omega
            have h256 : ∀ c ∈ E1, ∀ x ∈ c.1.d, x < 256 := fun c hc x hx => HI.out.b8 (cvt c.1) (List.mem_map.2 ⟨c, hc, rfl⟩) x hx
            have h256b : ∀ c ∈ E2, ∀ x ∈ c.1.d, x < 256 := fun c hc x hx => HI.out.b8 (cvt c.1) (by rw [HI.out.e]; exact List.mem_map.2 ⟨c, hc, rfl⟩) x hx
            have hE2l : E2.length = p := by have h1 := congrArg List.length HI.out.e; rw [List.length_map, List.length_map, HI.out.n] at h1; exact h1.symm
            obtain ⟨fa', fc', hf1, hin1⟩ := HI.out.x.inn h256
            obtain ⟨ua', uc', hu1, hin2⟩ := HI.out.y.inn h256b
            simp only [Value.slice.injEq] at hf1 hu1
            rw [← hf1.1] at hin1
            rw [← hu1.1] at hin2
            have QW : Hid _ := write_any WL fa p fc (E1.map Prod.fst) hin1 (by rw [List.length_map]; exact HI.out.n) (by omega)
            have QV : Hid (∀ W : World, Below WL.heap.size WL W → Calls Try.prog 11 #[.slice ua p uc] W fun e w' => Below W.heap.size W w' ∧ ∃ v, RowW w' W.heap.size v (wrA c1).1 ∧ e = .returned (.tuple #[v, .int .i64 (wrA c1).2])) := fun W hW => by
              have h1 := rwrite_any W ua p uc (E2.map Prod.fst) (hin2.old hW) (by rw [List.length_map]; exact hE2l) (by omega)
              rw [List.map_map, show (cvt ∘ Prod.fst : FX → CV) = (fun e => cvt e.1) from rfl, ← HI.out.e, ← hc1] at h1
              exact h1
            rw [List.map_map, show (cvt ∘ Prod.fst : FX → CV) = (fun e => cvt e.1) from rfl, ← hc1] at QW
            rw [← hout, ← her] at QW QV
            clear hout her hc1 h256 h256b hE2l hf1 hu1 hin1 hin2 HI
            go_wp2_with fail
            refine Calls.mono QW.out ?_
            rintro e wM ⟨bM, vM, hvM, rfl⟩
            clear QW
            obtain ⟨N2, hN2⟩ : ∃ N, N = out2.length := ⟨_, rfl⟩
            have HN2 : Hid (N2 = out2.length) := hN2
            obtain ⟨ga, gc, hfM, _⟩ := hvM.form
            rw [← hN2] at hfM
            subst hfM
            clear hN2
            have HM3 : Hid (RowW wM WL.heap.size (.slice ga N2 gc) out2 ∧ Below WL.heap.size WL wM) := ⟨hvM, bM⟩
            clear hvM bM
            go_wp2_with fail
            refine Calls.mono (QV.out wM HM3.out.2) ?_
            rintro e wN ⟨bN, vN, hvN, rfl⟩
            clear QV
            obtain ⟨ha, hc, hfN, _⟩ := hvN.form
            rw [← HN2.out] at hfN
            subst hfN
            have k1 := conv_any wN ga gc out2 (HM3.out.1.below bN).seg HW2.out.1
            have k2 := conv_any wN ha hc out2 hvN.seg HW2.out.1
            rw [← HN2.out] at k1 k2
            obtain ⟨s2, hs2⟩ : ∃ s, s = strOf out2 := ⟨_, rfl⟩
            rw [← hs2] at k1 k2
            clear hs2
            have HN3 : Hid (Caps wN w1.heap.size (.slice oa m oc) O1 ∧ Caps wN w3.heap.size (.slice ta m tc) T2 ∧ RowW wN w7.heap.size (.slice ra N rc) out ∧ RowW wN w8.heap.size (.slice sa N sc) out ∧ RowW wN WL.heap.size (.slice ga N2 gc) out2 ∧ Below w.heap.size w wN ∧ wA.heap.size ≤ WL.heap.size ∧ WL.heap.size ≤ wN.heap.size) := by
              have h1 := HM3.out.2.trans (bN.mono HM3.out.2.size)
              exact ⟨HX.out.1.below h1, HX.out.2.1.below h1, HX.out.2.2.1.below h1, HX.out.2.2.2.1.below h1, HM3.out.1.below bN, HX.out.2.2.2.2.1.trans (h1.mono HX.out.2.2.2.2.1.size), HX.out.2.2.2.2.2, h1.size⟩
            clear hvN bN HX HM3
            go_upto_region 35 with fail
            clear k1 k2
            obtain ⟨wP, hwP⟩ : ∃ W, W = wN.alloc (.cells #[.slice ra N rc, .slice sa N sc, .slice ga N2 gc] 22) := ⟨_, rfl⟩
            have HWP : Hid _ := hwP
            obtain ⟨r1, hr1⟩ : ∃ r : RO, r = ⟨ra, out, rc⟩ := ⟨_, rfl⟩
            obtain ⟨r2, hr2⟩ : ∃ r : RO, r = ⟨sa, out, sc⟩ := ⟨_, rfl⟩
            obtain ⟨r3, hr3⟩ : ∃ r : RO, r = ⟨ga, out2, gc⟩ := ⟨_, rfl⟩
            have hrv : roV r1 = .slice ra N rc ∧ roV r2 = .slice sa N sc ∧ roV r3 = .slice ga N2 gc := by rw [hr1, hr2, hr3]; unfold roV; simp only; rw [← HN.out, ← HN2.out]; exact ⟨rfl, rfl, rfl⟩
            have HRV : Hid (roV r1 = .slice ra N rc ∧ roV r2 = .slice sa N sc ∧ roV r3 = .slice ga N2 gc ∧ r1.d = out ∧ r2.d = out ∧ r3.d = out2) := ⟨hrv.1, hrv.2.1, hrv.2.2, by rw [hr1], by rw [hr2], by rw [hr3]⟩
            have HLG : Hid (ListG 1 roL (fun _ => True) wP (some ⟨wN.heap.size, 0, none⟩) [r1, r2, r3]) := by
              have h1 := listg3 wN 22 r1 r2 r3
              rw [hrv.1, hrv.2.1, hrv.2.2, ← hwP] at h1
              exact h1
            have HPB : Hid (Below wN.heap.size wN wP) := by show Below _ _ _; rw [hwP]; exact (Below.refl _ _).alloc (Nat.le_refl _) _
            clear hwP hr1 hr2 hr3 hrv
            go_upto_region 36 with (first | (at_builtin; refine wpList_appH roL_len roL_one (by decide) rfl (.tmp 245) (.tmp 249) 39 22 rfl Try.underlying39 info_ro wN.heap.size (.slice none 0 0) [] rfl GL.nil (fun _ => True) (some ⟨wN.heap.size, 0, none⟩) 3 3 [r1, r2, r3] rfl rfl ?gr_ (by simp) (by simp) ?gb_ ?gk_))
            case gr_ => rw [← HWP.out]; exact HLG.out
            case gb_ => rw [← HWP.out]; exact HPB.out.size
            rw [← HWP.out]
            intro lv0 wQ hg0 hk0 _
            have HQ0 : Hid (GL 1 roL 22 wQ wN.heap.size lv0 [r1, r2, r3] ∧ Below wN.heap.size wN wQ) := ⟨by simpa using hg0, HPB.out.trans (((Ch.ofGrown hk0).below (B := wN.heap.size) (fun q hq => by simp [Value.ownBlock] at hq) HPB.out.size))⟩
            clear hg0 hk0
            go_wp2_with fail
            go_loopw [32, 33] (fun lv ix wr => ∃ k : Nat, ix = .int .i64 (k : Nat) ∧ k ≤ m ∧ Hid (GL 1 roL 22 wr wN.heap.size lv ([r1, r2, r3] ++ (O1.take k).map ceR) ∧ Below wN.heap.size wN wr)) (fun _ ix _ => m - (intOf ix).toNat)
            case atStart => exact ⟨0, rfl, Nat.zero_le _, by simpa using ⟨HQ0.out.1, HQ0.out.2⟩⟩
            case round =>
              obtain ⟨k, rfl, hk, HI⟩ := hrel
              by_cases hin : k < m
              · as_aux_lemma =>
                  have p1 : decide ((k : Int) < (m : Int)) = true := decide_eq_true (by omega)
                  have p2 : decide (k < m) = true := decide_eq_true hin
                  have i0 : (0 : Int) ≤ (k : Int) := by omega
                  have i1 : (k : Int) < (m : Int) := by omega
                  have i2 : ((k : Int)).toNat = k := by omega
                  have wk1 : IntKind.i64.wrap ((k : Int) + 1) = (k : Int) + 1 := i64_s _ (by omega) (by omega)
                  obtain ⟨c, hc⟩ : ∃ c, O1[k]? = some c := ⟨_, List.getElem?_eq_getElem (by rw [HT.out.1]; exact hin)⟩
                  obtain ⟨g, cap', hv, _, hg2, hgr⟩ := (HN3.out.1.l.below HI.out.2).at ceL_len k c hc
                  simp only [Value.slice.injEq] at hv
                  obtain ⟨hga, hn_, hc_⟩ := hv
                  clear hn_ hc_
                  subst hga
                  obtain ⟨q, hq⟩ : ∃ q, c.d.length = q := ⟨_, rfl⟩
                  have c3 : wr.cell? ⟨g, k * 4 + 3, none⟩ = some (.slice c.a q c.cap) := by rw [← hq]; exact hgr 3 (.slice c.a c.d.length c.cap) rfl
                  have HEL : Hid (O1[k]? = some c ∧ c.d.length = q) := ⟨hc, hq⟩
                  obtain ⟨la_, lc_, hlv⟩ := HI.out.1.form
                  obtain ⟨RL, hRL⟩ : ∃ R, R = [r1, r2, r3] ++ (O1.take k).map ceR := ⟨_, rfl⟩
                  rw [← hRL] at hlv HI
                  have HRL : Hid (RL = [r1, r2, r3] ++ (O1.take k).map ceR ∧ RL.length ≤ 100000000000) := ⟨hRL, by rw [hRL, List.length_append, List.length_map, List.length_take]; simp; omega⟩
                  obtain ⟨lv, hlve⟩ : ∃ v, v = u32 := ⟨_, rfl⟩
                  rw [← hlve] at hlv HI ⊢
                  obtain ⟨NL, hNL⟩ : ∃ N, N = RL.length := ⟨_, rfl⟩
                  rw [← hNL] at hlv
                  subst hlv
                  clear hlve hc hq hgr hg2 hRL hNL
                  obtain ⟨wy, hwy⟩ : ∃ W, W = wr.alloc (.cells #[.slice c.a q c.cap] 22) := ⟨_, rfl⟩
                  have HWY : Hid _ := hwy
                  have HYB : Hid (Below wr.heap.size wr wy ∧ wr.heap.size < wy.heap.size) := by rw [hwy]; exact ⟨(Below.refl _ _).alloc (Nat.le_refl _) _, by rw [World.size_alloc]; omega⟩
                  have HYR : Hid (wy.rangeAt wr.heap.size 0 (roL (ceR c))) := by
                    have h1 := range1 wr 22 (ceR c)
                    have h2 : roV (ceR c) = .slice c.a q c.cap := by rw [← HEL.out.2]; rfl
                    rw [h2, ← hwy] at h1
                    exact h1
                  clear hwy
                  go_upto_region 38 with (first | (at_builtin; refine wpList_app1H roL_len roL_one (by decide) rfl (.tmp 257) (.tmp 263) 39 22 rfl Try.underlying39 info_ro wN.heap.size (.slice la_ NL lc_) RL rfl ?gra wr.heap.size 1 (ceR c) rfl ?gla ?gsa HRL.out.2 ?gba ?gka))
                  case gra => rw [← HWY.out]; exact HI.out.1.below HYB.out.1
                  case gla => rw [← HWY.out]; exact HYB.out.2
                  case gsa => rw [← HWY.out]; exact HYR.out
                  case gba => rw [← HWY.out]; exact Nat.le_trans HI.out.2.size HYB.out.1.size
                  rw [← HWY.out]
                  intro vb wb gb kb _
                  have HB9 : Hid (GL 1 roL 22 wb wN.heap.size vb ([r1, r2, r3] ++ (O1.take (k + 1)).map ceR) ∧ Below wN.heap.size wN wb) := by
                    have h1 := HI.out.2.trans (HYB.out.1.mono HI.out.2.size)
                    refine ⟨?_, h1.trans ((Ch.ofGrown kb).below (fun q hq => (HI.out.1.kind q hq).1) h1.size)⟩
                    have e1 : [r1, r2, r3] ++ (O1.take (k + 1)).map ceR = RL ++ [ceR c] := by rw [HRL.out.1, List.take_add_one, HEL.out.1, List.map_append]; simp
                    rw [e1]
                    exact gb
                  clear gb kb c3
                  go_wp2
                  go_roundw
                  case rel => exact ⟨k + 1, by go_num, by omega, HB9.out.1, HB9.out.2⟩
                  case measure => simp [intOf]; omega
              · as_aux_lemma =>
                  have p1 : decide ((k : Int) < (m : Int)) = false := decide_eq_false (by omega)
                  have p2 : decide (k < m) = false := decide_eq_false hin
                  have HL1 : Hid (GL 1 roL 22 wr wN.heap.size u32 ([r1, r2, r3] ++ O1.map ceR) ∧ Below wN.heap.size wN wr) := by
                    have h1 := HI.out
                    rw [List.take_of_length_le (by rw [HT.out.1]; omega)] at h1
                    exact h1
                  obtain ⟨wR, hw_⟩ : ∃ W, W = wr := ⟨_, rfl⟩
                  obtain ⟨lv1, hv_⟩ : ∃ v, v = u32 := ⟨_, rfl⟩
                  rw [← hw_, ← hv_] at HL1
                  rw [← hw_, ← hv_]
                  clear hin HI hw_ hv_
                  go_wp2_with fail
                  go_loopw [32, 34] (fun lv ix wr => ∃ k : Nat, ix = .int .i64 (k : Nat) ∧ k ≤ m ∧ Hid (GL 1 roL 22 wr wN.heap.size lv (([r1, r2, r3] ++ O1.map ceR) ++ (T2.take k).map ceR) ∧ Below wN.heap.size wN wr)) (fun _ ix _ => m - (intOf ix).toNat)
                  case atStart => exact ⟨0, rfl, Nat.zero_le _, by simpa using ⟨HL1.out.1, HL1.out.2⟩⟩
                  case round =>
                    obtain ⟨k, rfl, hk, HI⟩ := hrel
                    by_cases hin : k < m
                    · as_aux_lemma =>
                        have p1 : decide ((k : Int) < (m : Int)) = true := decide_eq_true (by omega)
                        have p2 : decide (k < m) = true := decide_eq_true hin
                        have i0 : (0 : Int) ≤ (k : Int) := by omega
                        have i1 : (k : Int) < (m : Int) := by omega
                        have i2 : ((k : Int)).toNat = k := by omega
                        have wk1 : IntKind.i64.wrap ((k : Int) + 1) = (k : Int) + 1 := i64_s _ (by omega) (by omega)
                        obtain ⟨c, hc⟩ : ∃ c, T2[k]? = some c := ⟨_, List.getElem?_eq_getElem (by rw [HT.out.2.1]; exact hin)⟩
                        obtain ⟨g, cap', hv, _, hg2, hgr⟩ := (HN3.out.2.1.l.below HI.out.2).at ceL_len k c hc
                        simp only [Value.slice.injEq] at hv
                        obtain ⟨hga, hn_, hc_⟩ := hv
                        clear hn_ hc_
                        subst hga
                        obtain ⟨q, hq⟩ : ∃ q, c.d.length = q := ⟨_, rfl⟩
                        have c3 : wr.cell? ⟨g, k * 4 + 3, none⟩ = some (.slice c.a q c.cap) := by rw [← hq]; exact hgr 3 (.slice c.a c.d.length c.cap) rfl
                        have HEL : Hid (T2[k]? = some c ∧ c.d.length = q) := ⟨hc, hq⟩
                        obtain ⟨la_, lc_, hlv⟩ := HI.out.1.form
                        obtain ⟨RL, hRL⟩ : ∃ R, R = ([r1, r2, r3] ++ O1.map ceR) ++ (T2.take k).map ceR := ⟨_, rfl⟩
                        rw [← hRL] at hlv HI
                        have HRL : Hid (RL = ([r1, r2, r3] ++ O1.map ceR) ++ (T2.take k).map ceR ∧ RL.length ≤ 100000000000) := ⟨hRL, by rw [hRL, List.length_append, List.length_map, List.length_take]; rw [List.length_append, List.length_map, HT.out.1]; simp; omega⟩
                        obtain ⟨lv, hlve⟩ : ∃ v, v = u32 := ⟨_, rfl⟩
                        rw [← hlve] at hlv HI ⊢
                        obtain ⟨NL, hNL⟩ : ∃ N, N = RL.length := ⟨_, rfl⟩
                        rw [← hNL] at hlv
                        subst hlv
                        clear hlve hc hq hgr hg2 hRL hNL
                        obtain ⟨wy, hwy⟩ : ∃ W, W = wr.alloc (.cells #[.slice c.a q c.cap] 22) := ⟨_, rfl⟩
                        have HWY : Hid _ := hwy
                        have HYB : Hid (Below wr.heap.size wr wy ∧ wr.heap.size < wy.heap.size) := by rw [hwy]; exact ⟨(Below.refl _ _).alloc (Nat.le_refl _) _, by rw [World.size_alloc]; omega⟩
                        have HYR : Hid (wy.rangeAt wr.heap.size 0 (roL (ceR c))) := by
                          have h1 := range1 wr 22 (ceR c)
                          have h2 : roV (ceR c) = .slice c.a q c.cap := by rw [← HEL.out.2]; rfl
                          rw [h2, ← hwy] at h1
                          exact h1
                        clear hwy
                        go_upto_region 42 with (first | (at_builtin; refine wpList_app1H roL_len roL_one (by decide) rfl (.tmp 271) (.tmp 277) 39 22 rfl Try.underlying39 info_ro wN.heap.size (.slice la_ NL lc_) RL rfl ?grb wr.heap.size 1 (ceR c) rfl ?glb ?gsb HRL.out.2 ?gbb ?gkb))
                        case grb => rw [← HWY.out]; exact HI.out.1.below HYB.out.1
                        case glb => rw [← HWY.out]; exact HYB.out.2
                        case gsb => rw [← HWY.out]; exact HYR.out
                        case gbb => rw [← HWY.out]; exact Nat.le_trans HI.out.2.size HYB.out.1.size
                        rw [← HWY.out]
                        intro vb wb gb kb _
                        have HB9 : Hid (GL 1 roL 22 wb wN.heap.size vb (([r1, r2, r3] ++ O1.map ceR) ++ (T2.take (k + 1)).map ceR) ∧ Below wN.heap.size wN wb) := by
                          have h1 := HI.out.2.trans (HYB.out.1.mono HI.out.2.size)
                          refine ⟨?_, h1.trans ((Ch.ofGrown kb).below (fun q hq => (HI.out.1.kind q hq).1) h1.size)⟩
                          have e1 : ([r1, r2, r3] ++ O1.map ceR) ++ (T2.take (k + 1)).map ceR = RL ++ [ceR c] := by rw [HRL.out.1, List.take_add_one, HEL.out.1, List.map_append]; simp
                          rw [e1]
                          exact gb
                        clear gb kb c3
                        go_wp2
                        go_roundw
                        case rel => exact ⟨k + 1, by go_num, by omega, HB9.out.1, HB9.out.2⟩
                        case measure => simp [intOf]; omega
                    · as_aux_lemma =>
                        have p1 : decide ((k : Int) < (m : Int)) = false := decide_eq_false (by omega)
                        have p2 : decide (k < m) = false := decide_eq_false hin
                        have HL2 : Hid (GL 1 roL 22 wr wN.heap.size u32 (([r1, r2, r3] ++ O1.map ceR) ++ T2.map ceR) ∧ Below wN.heap.size wN wr) := by
                          have h1 := HI.out
                          rw [List.take_of_length_le (by rw [HT.out.2.1]; omega)] at h1
                          exact h1
                        obtain ⟨wS, hw_⟩ : ∃ W, W = wr := ⟨_, rfl⟩
                        obtain ⟨lv2, hv_⟩ : ∃ v, v = u32 := ⟨_, rfl⟩
                        rw [← hw_, ← hv_] at HL2
                        rw [← hw_, ← hv_]
                        clear hin HI hw_ hv_
                        go_wp2_with fail
                        go_loopw [35] (fun ix wr => ∃ (k : Nat) (Lk : List CE), ix = .int .i64 (k : Nat) ∧ k ≤ m ∧ Hid (GL 4 ceL 37 wr w1.heap.size (.slice oa m oc) Lk ∧ Lk.length = m ∧ (∀ (i : Nat) (c : CE), Lk[i]? = some c → i < k → c = cn ((0 + i : Nat) : Int)) ∧ Ch (fun q => (Value.slice oa m oc).ownBlock = some q) wS wr)) (fun ix _ => m - (intOf ix).toNat)
                        case atStart => exact ⟨0, O1, rfl, Nat.zero_le _, HN3.out.1.l.below HL2.out.2, HT.out.1, fun i c _ hi => by omega, Ch.refl _ _⟩
                        case round =>
                          obtain ⟨k, Lk, rfl, hk, HI⟩ := hrel
                          by_cases hin : k < m
                          · as_aux_lemma =>
                              have p1 : decide ((k : Int) < (m : Int)) = true := decide_eq_true (by omega)
                              have p2 : decide (k < m) = true := decide_eq_true hin
                              have i0 : (0 : Int) ≤ (k : Int) := by omega
                              have i1 : (k : Int) < (m : Int) := by omega
                              have i2 : ((k : Int)).toNat = k := by omega
                              have wk1 : IntKind.i64.wrap ((k : Int) + 1) = (k : Int) + 1 := i64_s _ (by omega) (by omega)
                              have wk2 : IntKind.i64.wrap (100000 + (k : Int)) = 100000 + (k : Int) := i64_s _ (by omega) (by omega)
                              obtain ⟨c, hc⟩ : ∃ c, Lk[k]? = some c := ⟨_, List.getElem?_eq_getElem (by rw [HI.out.2.1]; exact hin)⟩
                              obtain ⟨g, cap', hv, hgb, hg2, hgr⟩ := HI.out.1.at ceL_len k c hc
                              simp only [Value.slice.injEq] at hv
                              obtain ⟨hga, hn_, hc_⟩ := hv
                              clear hn_ hc_ hgr
                              subst hga
                              go_upto_region 46 with (first | (refine wpList_bcn (.tmp 287) rfl (k : Int) rfl rfl ?_) | (refine wpList_setG ceL_len ceL_one 37 info_ce (.tmp 289) (.tmp 288) rfl rfl w1.heap.size g m oc Lk k (k * 4) (cn (k : Int)) rfl rfl rfl HI.out.1 hin rfl ?_; intro w5 h5 k5))
                              have H5 : Hid (GL 4 ceL 37 w5 w1.heap.size (.slice (some ⟨g, 0, none⟩) m oc) (Lk.set k (cn (k : Int))) ∧ Ch (fun q => (Value.slice (some ⟨g, 0, none⟩) m oc).ownBlock = some q) wS w5) := ⟨h5, HI.out.2.2.2.trans (k5.mono (T := fun q => (Value.slice (some ⟨g, 0, none⟩) m oc).ownBlock = some q) (fun q _ e => by rw [e]; rfl)) (fun _ _ s => s)⟩
                              clear h5 k5
                              go_wp2
                              go_roundw
                              case rel =>
                                refine ⟨k + 1, Lk.set k (cn (k : Int)), by go_num, by omega, H5.out.1, by rw [List.length_set]; exact HI.out.2.1, fun i e he hi => ?_, H5.out.2⟩
                                rw [List.getElem?_set] at he
                                by_cases hik : k = i
                                · rw [if_pos hik, if_pos (by rw [HI.out.2.1]; exact hin), Option.some.injEq] at he
                                  rw [← he, ← hik]
                                  simp
                                · rw [if_neg hik] at he
                                  exact HI.out.2.2.1 i e he (by omega)
                              case measure => simp [intOf]; omega
                          · as_aux_lemma =>
                              have p1 : decide ((k : Int) < (m : Int)) = false := decide_eq_false (by omega)
                              have p2 : decide (k < m) = false := decide_eq_false hin
                              have HM1 : Hid (Num wr oa m 0 ∧ GL 4 ceL 37 wr w1.heap.size (.slice oa m oc) Lk ∧ Lk.length = m ∧ (∀ (i : Nat) (c : CE), Lk[i]? = some c → c.tk = ((0 + i : Nat) : Int)) ∧ Ch (fun q => (Value.slice oa m oc).ownBlock = some q) wS wr) := by
                                have h1 : ∀ (i : Nat) (c : CE), Lk[i]? = some c → c.tk = ((0 + i : Nat) : Int) := fun i c hc => by
                                  have hi := (List.getElem?_eq_some_iff.1 hc).1
                                  rw [HI.out.2.1] at hi
                                  rw [HI.out.2.2.1 i c hc (by omega)]
                                  rfl
                                exact ⟨HI.out.1.num HI.out.2.1 h1, HI.out.1, HI.out.2.1, h1, HI.out.2.2.2⟩
                              obtain ⟨wT, hw_⟩ : ∃ W, W = wr := ⟨_, rfl⟩
                              obtain ⟨LO, hl_⟩ : ∃ l, l = Lk := ⟨_, rfl⟩
                              rw [← hw_, ← hl_] at HM1
                              rw [← hw_]
                              clear hin HI hw_ hl_
                              go_wp2_with fail
                              go_loopw [36] (fun ix wr => ∃ (k : Nat) (Lk : List CE), ix = .int .i64 (k : Nat) ∧ k ≤ m ∧ Hid (GL 4 ceL 37 wr w3.heap.size (.slice ta m tc) Lk ∧ Lk.length = m ∧ (∀ (i : Nat) (c : CE), Lk[i]? = some c → i < k → c = cn ((100000 + i : Nat) : Int)) ∧ Ch (fun q => (Value.slice oa m oc).ownBlock = some q ∨ (Value.slice ta m tc).ownBlock = some q) wS wr ∧ GL 4 ceL 37 wr w1.heap.size (.slice oa m oc) LO ∧ LO.length = m ∧ ∀ (i : Nat) (c : CE), LO[i]? = some c → c.tk = ((0 + i : Nat) : Int))) (fun ix _ => m - (intOf ix).toNat)
                              case atStart => exact ⟨0, T2, rfl, Nat.zero_le _, (HN3.out.2.1.l.below HL2.out.2).ch HM1.out.2.2.2.2 (fun g hg e => by have h1 := (HN3.out.2.1.l.kind g hg).1; have h2 := HOB.out g e; have h3 := HZZ.out; omega), HT.out.2.1, fun i c _ hi => by omega, HM1.out.2.2.2.2.mono (fun q _ e => .inl e), HM1.out.2.1, HM1.out.2.2.1, HM1.out.2.2.2.1⟩
                              case round =>
                                obtain ⟨k, Lk, rfl, hk, HI⟩ := hrel
                                by_cases hin : k < m
                                · as_aux_lemma =>
                                    have p1 : decide ((k : Int) < (m : Int)) = true := decide_eq_true (by omega)
                                    have p2 : decide (k < m) = true := decide_eq_true hin
                                    have i0 : (0 : Int) ≤ (k : Int) := by omega
                                    have i1 : (k : Int) < (m : Int) := by omega
                                    have i2 : ((k : Int)).toNat = k := by omega
                                    have wk1 : IntKind.i64.wrap ((k : Int) + 1) = (k : Int) + 1 := i64_s _ (by omega) (by omega)
                                    have wk2 : IntKind.i64.wrap (100000 + (k : Int)) = 100000 + (k : Int) := i64_s _ (by omega) (by omega)
                                    obtain ⟨c, hc⟩ : ∃ c, Lk[k]? = some c := ⟨_, List.getElem?_eq_getElem (by rw [HI.out.2.1]; exact hin)⟩
                                    obtain ⟨g, cap', hv, hgb, hg2, hgr⟩ := HI.out.1.at ceL_len k c hc
                                    simp only [Value.slice.injEq] at hv
                                    obtain ⟨hga, hn_, hc_⟩ := hv
                                    clear hn_ hc_ hgr
                                    subst hga
                                    go_upto_region 50 with (first | (refine wpList_bcn (.tmp 299) rfl (100000 + (k : Int)) rfl rfl ?_) | (refine wpList_setG ceL_len ceL_one 37 info_ce (.tmp 301) (.tmp 300) rfl rfl w3.heap.size g m tc Lk k (k * 4) (cn (100000 + (k : Int))) rfl rfl rfl HI.out.1 hin rfl ?_; intro w5 h5 k5))
                                    have H5 : Hid (GL 4 ceL 37 w5 w3.heap.size (.slice (some ⟨g, 0, none⟩) m tc) (Lk.set k (cn (100000 + (k : Int)))) ∧ Ch (fun q => (Value.slice oa m oc).ownBlock = some q ∨ (Value.slice (some ⟨g, 0, none⟩) m tc).ownBlock = some q) wS w5 ∧ GL 4 ceL 37 w5 w1.heap.size (.slice oa m oc) LO ∧ LO.length = m ∧ ∀ (i : Nat) (c : CE), LO[i]? = some c → c.tk = ((0 + i : Nat) : Int)) := ⟨h5, HI.out.2.2.2.1.trans (k5.mono (T := fun q => (Value.slice oa m oc).ownBlock = some q ∨ (Value.slice (some ⟨g, 0, none⟩) m tc).ownBlock = some q) (fun q _ e => .inr (by rw [e]; rfl))) (fun _ _ s => s), HI.out.2.2.2.2.1.ch k5 (fun q hq e => by have h1 := HOB.out q hq; have h3 := HZZ.out; omega), HI.out.2.2.2.2.2.1, HI.out.2.2.2.2.2.2⟩
                                    clear h5 k5
                                    go_wp2
                                    go_roundw
                                    case rel =>
                                      refine ⟨k + 1, Lk.set k (cn (100000 + (k : Int))), by go_num, by omega, H5.out.1, by rw [List.length_set]; exact HI.out.2.1, fun i e he hi => ?_, H5.out.2⟩
                                      rw [List.getElem?_set] at he
                                      by_cases hik : k = i
                                      · rw [if_pos hik, if_pos (by rw [HI.out.2.1]; exact hin), Option.some.injEq] at he
                                        rw [← he, ← hik]
                                        simp
                                      · rw [if_neg hik] at he
                                        exact HI.out.2.2.1 i e he (by omega)
                                    case measure => simp [intOf]; omega
                                · as_aux_lemma =>
                                    have p1 : decide ((k : Int) < (m : Int)) = false := decide_eq_false (by omega)
                                    have p2 : decide (k < m) = false := decide_eq_false hin
                                    have HM2 : Hid (Num wr ta m 100000 ∧ GL 4 ceL 37 wr w3.heap.size (.slice ta m tc) Lk ∧ Lk.length = m ∧ (∀ (i : Nat) (c : CE), Lk[i]? = some c → c.tk = ((100000 + i : Nat) : Int)) ∧ Ch (fun q => (Value.slice oa m oc).ownBlock = some q ∨ (Value.slice ta m tc).ownBlock = some q) wS wr ∧ GL 4 ceL 37 wr w1.heap.size (.slice oa m oc) LO ∧ LO.length = m ∧ ∀ (i : Nat) (c : CE), LO[i]? = some c → c.tk = ((0 + i : Nat) : Int)) := by
                                      have h1 : ∀ (i : Nat) (c : CE), Lk[i]? = some c → c.tk = ((100000 + i : Nat) : Int) := fun i c hc => by
                                        have hi := (List.getElem?_eq_some_iff.1 hc).1
                                        rw [HI.out.2.1] at hi
                                        rw [HI.out.2.2.1 i c hc (by omega)]
                                        rfl
                                      exact ⟨HI.out.1.num HI.out.2.1 h1, HI.out.1, HI.out.2.1, h1, HI.out.2.2.2⟩
                                    obtain ⟨wU, hw_⟩ : ∃ W, W = wr := ⟨_, rfl⟩
                                    obtain ⟨LT, hl_⟩ : ∃ l, l = Lk := ⟨_, rfl⟩
                                    rw [← hw_, ← hl_] at HM2
                                    rw [← hw_]
                                    clear hin HI hw_ hl_
                                    obtain ⟨R, hR⟩ : ∃ R, R = [r1, r2, r3] ++ O1.map ceR ++ T2.map ceR := ⟨_, rfl⟩
                                    obtain ⟨va, vc, hlv⟩ := HL2.out.1.form
                                    rw [← hR] at hlv
                                    have hRl : R.length = 3 + m + m := by rw [hR, List.length_append, List.length_append, List.length_map, List.length_map, HT.out.1, HT.out.2.1]; rfl
                                    obtain ⟨NL, hNL⟩ : ∃ N, N = R.length := ⟨_, rfl⟩
                                    rw [← hNL] at hlv
                                    subst hlv
                                    have HNL : Hid (R.length = NL ∧ NL = 3 + m + m) := ⟨hNL.symm, by rw [hNL]; exact hRl⟩
                                    have hNLb : NL ≤ 100000000 := by rw [hNL, hRl]; omega
                                    clear hNL hRl
                                    have HRS : Hid (Rs wU w.heap.size (.slice va NL vc) R ∧ Lb R ∧ Below w.heap.size w wU) := lists_rs (s1 := w1.heap.size) (s2 := w2.heap.size) (s3 := w3.heap.size) (s4 := w4.heap.size) (s7 := w7.heap.size) (s8 := w8.heap.size) (s9 := w9.heap.size) (sL := WL.heap.size) hR ⟨HN3.out.1, HN3.out.2.1, HN3.out.2.2.1, HN3.out.2.2.2.1, HN3.out.2.2.2.2.1, HN3.out.2.2.2.2.2.1⟩ ⟨HZZ.out.1, HZZ.out.2.1, HZZ.out.2.2.1, HZZ.out.2.2.2.1, Nat.le_trans HZZ.out.2.2.2.2.1 HZZ.out.2.2.2.2.2.1, HZZ.out.2.2.2.2.2.2.1, HZZ.out.2.2.2.2.2.2.2.1, Nat.le_trans HZZ.out.2.2.2.2.2.2.2.2 HN3.out.2.2.2.2.2.2.1⟩ HN3.out.2.2.2.2.2.2.2 HFR.out ⟨by rw [hR]; exact HL2.out.1, HL2.out.2⟩ HM2.out.2.2.2.2.1 HRV.out HR.out HRT.out HDL.out HT.out.2.2 HW.out.2 HW2.out.2
                                    have QA : Hid _ := apart_any wU w.heap.size va NL vc R HRS.out.1 HNL.out.1 HRS.out.2.1 hNLb HRS.out.2.2.size
                                    clear hR
                                    go_wp2_with fail
                                    refine Calls.mono QA.out ?_
                                    rintro e wV ⟨rfl, bV, kV⟩
                                    clear QA
                                    have HV : Hid (Num wV oa m 0 ∧ Num wV ta m 100000 ∧ Below w.heap.size w wV) := by
                                      refine ⟨num_k8 kV HM2.out.2.2.2.2.2.1 HM2.out.2.2.2.2.2.2.1 HM2.out.2.2.2.2.2.2.2, num_k8 kV HM2.out.2.1 HM2.out.2.2.1 HM2.out.2.2.2.1, HRS.out.2.2.trans bV⟩
                                    clear bV kV
                                    have QN : Hid _ := numbered_any wV oa m oc 0 HV.out.1 (by omega) (by omega)
                                    have QN2 : Hid _ := numbered_any wV ta m tc 100000 HV.out.2.1 (by omega) (by omega)
                                    go_wp2_with fail
                                    refine Calls.mono QN.out ?_
                                    rintro e w_ ⟨rfl, rfl⟩
                                    go_wp2_with fail
                                    refine Calls.mono QN2.out ?_
                                    rintro e w_ ⟨rfl, rfl⟩
                                    go_wp2
                                    go_ret
                                    exact ⟨rfl, HV.out.2.2⟩
end deskCaptures
end Go.Proofs.Ytpdfepnifjolkaa
