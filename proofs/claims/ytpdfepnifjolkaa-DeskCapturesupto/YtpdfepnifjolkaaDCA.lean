/-
  Layer 20, captures: the harness' marked and unmarked.
-/
import Derived.Test.YtpdfepnifjolkaaDC9
namespace Go.Proofs.Ytpdfepnifjolkaa
open Go.RowKit Go.ChangeShapes Go.WideShapes

def x70 : List Nat := List.replicate 70 109
theorem x70_len : x70.length = 70 := List.length_replicate
theorem CapAt.set3 {w : World} {O : Nat} {c : CE} (h : CapAt w O c) (d : List Nat) (a : Option Addr) (n cap : Nat) (hd : d.length = n) : CapAt (w.setCell ⟨O, 3, none⟩ (.slice a n cap)) O (c.wv d a cap) := by
  unfold CapAt at h ⊢
  rw [setCell_eq_setRow w O 3 _ _ _ _ h, setRow_heap w O _ _ _ _ h]
  unfold ceA CE.wv
  rw [hd]
  rfl
theorem OwnB.lenz {w : World} {b n m : Nat} {v : Value} {l : List Nat} (h : OwnB w b v n l) (k : l.length = m) : OwnB w b v m l := by
  have h1 := h.1
  rw [List.length_map, toI_len, Nat.mul_one] at h1
  have : n = m := by omega
  subst this
  exact h
theorem cvt_at {E : List FX} {L : List CE} (h : E.map (fun e => cvt e.1) = L.map cvt) {k : Nat} {c : CE} (hc : L[k]? = some c) : ∃ e, E[k]? = some e ∧ cvt e.1 = cvt c := by
  have h1 := congrArg (fun l => l[k]?) h
  simp only [List.getElem?_map, hc, Option.map_some] at h1
  cases he : E[k]? with
  | none => rw [he] at h1; cases h1
  | some e => rw [he, Option.map_some, Option.some.injEq] at h1; exact ⟨e, rfl, h1⟩
set_option maxHeartbeats 1600000 in
set_option maxRecDepth 100000 in
theorem marked_any (w : World) (la : Option Addr) (n lc : Nat) (L : List CE) (hs : CapsIn w la L) (hn : L.length = n) (hn2 : n ≤ 2000000) (hdl : ∀ c ∈ L, c.d.length ≤ 2000000) : Calls Try.prog 10 #[.slice la n lc] w fun e w' => Below w.heap.size w w' ∧ ∃ v E, CapsX w' w.heap.size v E ∧ E.map (fun e => cvt e.1) = L.map cvt ∧ (∀ e ∈ E, e.2 = x70) ∧ e = .returned v := by
  have HS : Hid (CapsIn w la L ∧ L.length = n ∧ ∀ c ∈ L, c.d.length ≤ 2000000) := ⟨hs, hn, hdl⟩
  clear hs hn hdl
  go_enter Try.func10, Try.ntmps10
  go_wp2_with fail
  go_loopw [3, 4] (fun ov ix wr => ∃ (k : Nat) (E : List FX), ix = .int .i64 (k : Nat) ∧ k ≤ n ∧ Hid (CapsX wr w.heap.size ov E ∧ Below w.heap.size w wr ∧ E.map (fun e => cvt e.1) = (L.take k).map cvt ∧ (∀ e ∈ E, e.2 = x70) ∧ E.length = k)) (fun _ ix _ => n - (intOf ix).toNat)
  case atStart => exact ⟨0, [], rfl, Nat.zero_le _, CapsX.nil _ _, Below.refl _ _, by simp, by simp, rfl⟩
  case round =>
    obtain ⟨k, E, rfl, hk, HI⟩ := hrel
    by_cases hin : k < n
    · have p1 : decide ((k : Int) < (n : Int)) = true := decide_eq_true (by omega)
      have p2 : decide (k < n) = true := decide_eq_true hin
      have i0 : (0 : Int) ≤ (k : Int) := by omega
      have i1 : (k : Int) < (n : Int) := by omega
      have i2 : ((k : Int)).toNat = k := by omega
      have wk1 : IntKind.i64.wrap ((k : Int) + 1) = (k : Int) + 1 := i64_s _ (by omega) (by omega)
      obtain ⟨c, hc⟩ : ∃ c, L[k]? = some c := ⟨_, List.getElem?_eq_getElem (by rw [HS.out.2.1]; exact hin)⟩
      obtain ⟨⟨hsg, h256⟩, b, off, rfl, hlt, hcell⟩ := ListG.at HS.out.1 k c hc
      have HRA : Hid (∀ A : World, Below w.heap.size w A → A.rangeAt b (off + k * 4) (ceL c)) := fun A hA j u hj => by
        have hj4 : j < 4 := by have := (List.getElem?_eq_some_iff.1 hj).1; rwa [ceL_len] at this
        rw [hA.cell (p := ⟨b, off + k * 4 + j, none⟩) hlt, hcell j hj4]; exact hj
      have HSG : Hid (Seg .u8 w c.a (toI c.d) ∧ ∀ x ∈ c.d, x < 256) := ⟨hsg, h256⟩
      obtain ⟨m, hm⟩ : ∃ m, c.d.length = m := ⟨_, rfl⟩
      have hmb : m ≤ 2000000 := by rw [← hm]; exact HS.out.2.2 c (List.mem_of_getElem? hc)
      have HEL : Hid (L[k]? = some c ∧ c.d.length = m) := ⟨hc, hm⟩
      clear hsg h256 hcell hlt hc hm
      go_upto_region 6 with (first | (refine wpList_mid_cap (.tmp 16) rfl b (off + k * 4) c rfl (HRA.out wr HI.out.2.1) rfl ?_) | (refine wpList_nil_cap rfl rfl ?_; intro O Z hO hA bZ) | (refine wpList_store_cap (.tmp 5) (.tmp 17) rfl rfl O cz c rfl rfl hA rfl ?_; intro wk h5 k5))
      have HK : Hid (CapAt wk O c ∧ Below w.heap.size w wk ∧ Below wr.heap.size wr wk ∧ wr.heap.size ≤ O) := by
        have hOs := hO.out.1
        have h2 : Below wr.heap.size wr wk := bZ.trans (k5.below (fun q hq => by omega) bZ.size)
        exact ⟨h5, HI.out.2.1.trans (h2.mono HI.out.2.1.size), h2, by omega⟩
      clear h5 k5 hA bZ hO
      have c3 : wk.cell? ⟨O, 3, none⟩ = some (.slice c.a m c.cap) := by rw [HK.out.1.cell 3, ← HEL.out.2]; rfl
      go_upto_region 7 with (first | (at_builtin; refine append_own rfl (.const _) (.tmp 19) rfl wk.heap.size (.slice none 0 0) [] rfl (World.ownsRow_nil _ _ _ _) c.a m c.cap c.d rfl HEL.out.2 (HSG.out.1.old HK.out.2.1) (by simp; omega) (Nat.le_refl _) ?_))
      intro v1 w1 ho1 hk1 _
      replace ho1 : OwnB w1 wk.heap.size v1 m c.d := by have h9 := ho1; simp [HEL.out.2] at h9; exact h9
      have H1 : Hid (OwnB w1 wk.heap.size v1 m c.d ∧ Below wk.heap.size wk w1) := ⟨ho1, hk1.below (fun q hq => by simp [Value.ownBlock] at hq) (Nat.le_refl _)⟩
      clear ho1 hk1 c3
      go_wp2_with fail
      go_loopw [6, 7] (fun fv jx wq => ∃ j : Nat, jx = .int .i64 (j : Nat) ∧ j ≤ 70 ∧ Hid (OwnB wq wk.heap.size fv (m + j) (c.d ++ List.replicate j 109) ∧ Below wk.heap.size wk wq)) (fun _ jx _ => 70 - (intOf jx).toNat)
      case atStart => exact ⟨0, rfl, by omega, by simpa using H1.out.1, H1.out.2⟩
      case round =>
        obtain ⟨j, rfl, hj, HJ⟩ := hrel
        by_cases hjn : j < 70
        · have r1 : decide ((j : Int) < 70) = true := decide_eq_true (by omega)
          have r2 : decide (j < 70) = true := decide_eq_true hjn
          have r3 : IntKind.i64.wrap ((j : Int) + 1) = (j : Int) + 1 := i64_s _ (by omega) (by omega)
          have hsh := HJ.out.1
          unfold OwnB at hsh
          obtain ⟨fa, fc, hf⟩ := owns_shape hsh
          subst hf
          clear hsh
          obtain ⟨l, hl⟩ : ∃ l, l = c.d ++ List.replicate j 109 := ⟨_, rfl⟩
          rw [← hl] at HJ
          have HL : Hid (l = c.d ++ List.replicate j 109 ∧ l.length = m + j) := ⟨hl, by rw [hl, List.length_append, HEL.out.2, List.length_replicate]⟩
          clear hl
          obtain ⟨wy, hwy⟩ : ∃ y, y = wr.alloc (.cells #[.int .u8 109] 5) := ⟨_, rfl⟩
          have HYB : Hid (Below wr.heap.size wr wy) := by show Below _ _ _; rw [hwy]; exact (Below.refl _ _).alloc (Nat.le_refl _) _
          have HYS : Hid (Seg .u8 wy (some ⟨wr.heap.size, 0, none⟩) (toI [109])) := by show Seg _ _ _ _; rw [hwy]; exact seg_new3 wr .u8 5 (toI [109])
          have HYW : Hid _ := hwy
          clear hwy
          go_upto_region 9 with (first | (at_builtin; refine append_own rfl (.tmp 25) (.tmp 26) rfl wk.heap.size (.slice fa (m + j) fc) l rfl ?gr_ (some ⟨wr.heap.size, 0, none⟩) 1 1 [109] rfl rfl ?gs_ (by rw [HL.out.2]; omega) ?gb_ ?gk_))
          case gr_ => rw [← HYW.out]; exact Below.owns_ch (HJ.out.1.lenz rfl) HYB.out
          case gs_ => rw [← HYW.out]; exact HYS.out
          case gb_ => rw [← HYW.out]; exact Nat.le_trans HJ.out.2.size HYB.out.size
          rw [← HYW.out]
          intro v2 w2 ho2 hk2 _
          have H2 : Hid (OwnB w2 wk.heap.size v2 (m + (j + 1)) (c.d ++ List.replicate (j + 1) 109) ∧ Below wk.heap.size wk w2) := by
            have h1 := HJ.out.2.trans (HYB.out.mono HJ.out.2.size)
            refine ⟨?_, h1.trans (hk2.below (fun q hq => (HJ.out.1.kind q hq).1) h1.size)⟩
            have e : c.d ++ List.replicate (j + 1) 109 = l ++ [109] := by rw [HL.out.1, List.append_assoc, ← List.replicate_succ']
            rw [e]
            exact ho2.lenz (by rw [List.length_append, HL.out.2]; rfl)
          clear ho2 hk2
          go_wp2
          go_roundw
          case rel => exact ⟨j + 1, by go_num, by omega, H2.out.1, H2.out.2⟩
          case measure => simp [intOf]; omega
        · have hj70 : j = 70 := by omega
          subst hj70
          clear hjn hj
          have hsh := HJ.out.1
          unfold OwnB at hsh
          obtain ⟨fa, fc, hf, hfs, _, hfc, _⟩ := owns_seg hsh
          subst hf
          clear hsh hfs
          have HBW : Hid (Below w.heap.size w wr) := HK.out.2.1.trans (HJ.out.2.mono HK.out.2.1.size)
          have c3 : wr.cell? ⟨b, off + k * 4 + 3, none⟩ = some (.slice c.a m c.cap) := by
            have h1 := HRA.out wr HBW.out 3 (.slice c.a c.d.length c.cap) rfl
            rw [HEL.out.2] at h1
            exact h1
          have HCA : Hid (CapAt wr O c) := HK.out.1.below HJ.out.2
          have co : wr.cell? ⟨O, 3, none⟩ = some (.slice c.a m c.cap) := by rw [HCA.out.cell 3, ← HEL.out.2]; rfl
          have cf : wr.frozen? ⟨O, 3, none⟩ = false := HCA.out.fz 3
          have s0 : (0 : Int) ≤ (m : Int) := by omega
          have s1 : (m : Int) ≤ (fc : Int) := by omega
          have s2 : ((m : Int)).toNat = m := by omega
          obtain ⟨wz, hwz⟩ : ∃ y, wr.setCell ⟨O, 3, none⟩ (.slice fa m fc) = y := ⟨_, rfl⟩
          have kz : Ch (fun q => q = O) wr wz := by rw [← hwz]; exact (Ch.refl (fun q => q = O) wr).set ⟨O, 3, none⟩ _ rfl
          obtain ⟨c', hc'⟩ : ∃ x : CE, x = c.wv c.d fa fc := ⟨_, rfl⟩
          have HZ : Hid (CapAt wz O c' ∧ cvt c' = cvt c ∧ OwnB wz wk.heap.size (fxV (c', x70)) (c'.d.length + x70.length) (c'.d ++ x70) ∧ CapsX wz w.heap.size u3 E ∧ Below w.heap.size w wz) := by
            have hO := HK.out.1.lt
            have hOr := HK.out.2.2.2
            have hcs := HI.out.1.below HK.out.2.2.1
            have hz : Below w.heap.size w wz := HBW.out.trans (kz.below (fun q hq => by have := HI.out.2.1.size; omega) HBW.out.size)
            refine ⟨?_, by rw [hc']; rfl, ?_, ?_, hz⟩
            · rw [← hwz, hc']
              exact HCA.out.set3 c.d fa m fc HEL.out.2
            · rw [hc']
              show OwnB wz wk.heap.size (.slice fa (c.d.length + x70.length) fc) (c.d.length + x70.length) (c.d ++ x70)
              rw [HEL.out.2, x70_len]
              exact kz.owns HJ.out.1 (fun q hq e => by have := (HJ.out.1.kind q hq).1; omega)
            · refine (hcs.below HJ.out.2).ch kz (fun g hg e => ?_) (fun x hx g hg e => ?_)
              · have := (HI.out.1.l.kind g hg).2.1; omega
              · have := (HI.out.1.lt x hx g hg).2; omega
          have HWZ : Hid (wr.setCell ⟨O, 3, none⟩ (.slice fa m fc) = wz) := hwz
          have HLT : Hid (w.heap.size ≤ wk.heap.size ∧ ∀ e ∈ E, ∀ g, (fxV e).ownBlock = some g → g < wk.heap.size) := ⟨HK.out.2.1.size, fun e he g hg => Nat.lt_of_lt_of_le (HI.out.1.lt e he g hg).2 HK.out.2.2.1.size⟩
          have HLN : Hid (E.length ≤ 100000000000) := by show _ ≤ _; rw [HI.out.2.2.2.2]; omega
          have HEQ : Hid (c' = c.wv c.d fa fc) := hc'
          clear hwz kz hc'
          go_upto_region 12 with fail
          rw [HWZ.out]
          clear co cf c3 s0 s1 s2
          obtain ⟨lva, lvc, hlv⟩ := HZ.out.2.2.2.1.l.form
          rw [HI.out.2.2.2.2] at hlv
          obtain ⟨ov, hov⟩ : ∃ v, v = u3 := ⟨_, rfl⟩
          rw [← hov] at hlv HZ ⊢
          subst hlv
          clear hov
          go_upto_region 4 with (first | (refine wpList_load_cap (.tmp 5) rfl O c' rfl HZ.out.1 rfl ?_) | (refine wpList_bs1c (.tmp 38) rfl c' rfl rfl ?_; intro B W hB hR bW) | (refine wpList_app1H fxL_len fxL_one (by decide) rfl (.tmp 37) (.tmp 39) 23 37 rfl Try.underlying23 info_ce w.heap.size (.slice lva k lvc) E rfl (HZ.out.2.2.2.1.l.below bW) B 1 (c', x70) rfl (by have := hB.out; omega) hR HLN.out (Nat.le_trans HZ.out.2.2.2.2.size bW.size) ?_))
          intro vb wb gb kb _
          have HB9 : Hid (CapsX wb w.heap.size vb (E ++ [(c', x70)]) ∧ Below w.heap.size w wb) := by
            have h1 := HZ.out.2.2.2.1.below bW
            refine ⟨h1.push (w0 := wk) gb kb (Below.owns_ch HZ.out.2.2.1 bW) HLT.out.1 HLT.out.2, ?_⟩
            have h2 := HZ.out.2.2.2.2.trans (bW.mono HZ.out.2.2.2.2.size)
            exact h2.trans ((Ch.ofGrown kb).below (fun q hq => (h1.l.kind q hq).1) h2.size)
          clear gb kb hB hR bW
          go_wp2
          go_roundw
          case rel =>
            refine ⟨k + 1, E ++ [(c', x70)], by go_num, by omega, HB9.out.1, HB9.out.2, ?_, ?_, ?_⟩
            · rw [List.map_append, HI.out.2.2.1, List.take_add_one, HEL.out.1, List.map_append]
              simp only [Option.toList_some, List.map_cons, List.map_nil]
              rw [HZ.out.2.1]
            · intro e he
              rcases List.mem_append.1 he with he | he
              · exact HI.out.2.2.2.1 e he
              · simp only [List.mem_cons, List.not_mem_nil, or_false] at he
                rw [he]
            · rw [List.length_append, HI.out.2.2.2.2]; rfl
          case measure => simp [intOf]; omega
    · have p1 : decide ((k : Int) < (n : Int)) = false := decide_eq_false (by omega)
      have p2 : decide (k < n) = false := decide_eq_false hin
      have HF : Hid (L.take k = L) := List.take_of_length_le (by rw [HS.out.2.1]; omega)
      clear hin
      go_wp2
      go_ret
      exact ⟨HI.out.2.1, _, E, HI.out.1, by rw [HI.out.2.2.1, HF.out], HI.out.2.2.2.1, rfl⟩
end Go.Proofs.Ytpdfepnifjolkaa
