/-
  The statements' few and cuts: parts cut out of one array.
-/
import Derived.Test.YtcgfdhmegagjdaaRBld5
import Derived.Test.YtcgfdhmegagjdaaRoomyB
namespace Go.Proofs.Ytcgfdhmegagjdaa
open Go.RowKit

theorem Try.infoSl : (Try.prog.info? 22).map (fun i => (i.zero, i.size, i.bytes)) = some (some (.slice none 0 0), 1, 24) := by kernel_rfl
def none_ (_ : Nat) : Prop := False
theorem PartsAt.mono {w : World} {S T : Nat → Prop} {pa : Option Addr} {ps : List PV} (h : PartsAt w T pa ps) (hS : ∀ x, x < w.heap.size → S x → T x) : PartsAt w S pa ps := by
  rcases h with h | ⟨b, off, ha, hb, hlt, hc⟩
  · exact .inl h
  · refine .inr ⟨b, off, ha, fun s => hb (hS _ hlt s), hlt, fun i p hp => ⟨(hc i p hp).1, (hc i p hp).2.1, fun x h1 h2 s => (hc i p hp).2.2 x h1 h2 (hS _ ?_ s)⟩⟩
    have hsg := (hc i p hp).2.1
    rcases hsg with e | ⟨b', o', e, hcc⟩
    · exact absurd e h1
    · rw [h2] at e
      simp only [Option.some.injEq] at e
      subst e
      have : 0 < (toI p.bs).length := by
        cases hx : toI p.bs with
        | nil => exact absurd hx h1
        | cons _ _ => simp
      exact World.block_lt_of_cell? w _ (hcc 0 this)
theorem PartsAt.below {w w' : World} {S : Nat → Prop} {pa : Option Addr} {ps : List PV} (h : PartsAt w S pa ps) (k : Below w.heap.size w w') : PartsAt w' S pa ps := h.ch (Ch.ofBelow k)
theorem flat_lt (ps : List PV) (k : Nat) : (flat (ps.take k)).length + k ≤ (flat ps).length + ps.length ∨ ps.length < k := by
  by_cases h : ps.length < k
  · exact .inr h
  · have := flat_le ps k; exact .inl (by omega)

def fewOk (ps : List PV) (w w' : World) (e : Ending) : Prop := ∃ b, e = .returned (.bool b) ∧ w = w' ∧ (b = true → (flat ps).length + ps.length ≤ 4194304)
set_option maxRecDepth 100000 in
set_option maxHeartbeats 400000 in
theorem few_any (pa : Option Addr) (cap : Nat) (ps : List PV) (w : World) (hp : PartsAt w none_ pa ps) (hpl : ps.length ≤ 1048576) (hbs : ∀ p ∈ ps, p.bs.length ≤ 1048576) :
    Calls Try.prog 40 #[.slice pa ps.length cap] w fun e w' => fewOk ps w w' e := by
  go_enter Try.func40, Try.ntmps40
  go_wp2
  go_loop [3, 4] (fun r ix => ∃ k : Nat, k ≤ ps.length ∧ ix = .int .i64 k ∧ r = .int .i64 (((flat (ps.take k)).length + k : Nat) : Int) ∧ (flat (ps.take k)).length + k ≤ 4194304) (fun _ ix => ps.length - (intOf ix).toNat)
  case atStart => exact ⟨0, Nat.zero_le _, rfl, by simp [flat], by simp [flat]⟩
  case round =>
    obtain ⟨k, hk, rfl, rfl, hle⟩ := hrel
    by_cases hlt : k < ps.length
    · obtain ⟨p, hpk⟩ : ∃ p, ps[k]? = some p := ⟨ps[k], by simp [hlt]⟩
      rcases hp with hnil | ⟨b, off, rfl, hSb, hbl, hc⟩
      · rw [hnil] at hlt; simp at hlt
      obtain ⟨hcc, _, _⟩ := hc k p hpk
      have hft := flat_take ps k p hpk
      have HFT : Hid _ := hft
      have hpb := hbs p (List.mem_of_getElem? hpk)
      obtain ⟨f, hf⟩ : ∃ f, f = (flat (ps.take k)).length + k := ⟨_, rfl⟩
      rw [← hf] at hle ⊢
      obtain ⟨q, hq⟩ : ∃ q, q = p.bs.length := ⟨_, rfl⟩
      rw [← hq] at hcc hpb
      have HF : Hid (f = (flat (ps.take k)).length + k) := hf
      have HQ : Hid (q = p.bs.length) := hq
      clear hft hf hq hpk hc hbs
      have hlI : (f : Int) ≤ 4194304 := by omega
      have HLE : Hid (f ≤ 4194304) := hle
      clear hle
      by_cases hroom : (4194304 : Int) < (f : Int) + q + 1
      · go_wp2
        go_ret
        exact ⟨_, rfl, rfl, fun h => by cases h⟩
      · go_wp2
        go_round
        case rel => exact ⟨k + 1, by omega, by go_num, by rw [HFT.out, List.length_append, ← HQ.out]; have := HF.out; go_num, by rw [HFT.out, List.length_append, ← HQ.out]; have := HF.out; have := HLE.out; omega⟩
        case measure => simp [intOf]; omega
    · obtain rfl : k = ps.length := by omega
      obtain ⟨r, hr⟩ : ∃ r, r = (flat (ps.take ps.length)).length + ps.length := ⟨_, rfl⟩
      have HR : Hid ((flat ps).length + ps.length ≤ 4194304) := by rw [List.take_length] at hle; exact hle
      rw [← hr]
      clear hr hle
      go_wp2
      go_ret
      exact ⟨_, rfl, rfl, fun _ => HR.out⟩

/-- the array out of which the parts are cut -/
def ground : List PV → List Nat
  | [] => []
  | p :: ps => (p.bs ++ marks 75) ++ ground ps
theorem ground_snoc (ps : List PV) (p : PV) : ground (ps ++ [p]) = ground ps ++ (p.bs ++ marks 75) := by
  induction ps with
  | nil => simp [ground]
  | cons q ps ih => simp [ground, ih]
theorem ground_take (ps : List PV) (k : Nat) (p : PV) (h : ps[k]? = some p) : ground (ps.take (k + 1)) = ground (ps.take k) ++ (p.bs ++ marks 75) := by
  have hk : k < ps.length := (List.getElem?_eq_some_iff.1 h).1
  have e : ps[k] = p := (List.getElem?_eq_some_iff.1 h).2
  rw [List.take_succ_eq_append_getElem hk, e, ground_snoc]
theorem ground_len (ps : List PV) : (ground ps).length = (flat ps).length + 75 * ps.length := by
  induction ps with
  | nil => rfl
  | cons p ps ih => simp [ground, flat, marks_len, ih]; omega
theorem ground_take_len (ps : List PV) (k : Nat) (h : k ≤ ps.length) : (ground (ps.take k)).length = (flat (ps.take k)).length + 75 * k := by
  rw [ground_len]; simp; omega
theorem ground_256 (ps : List PV) (h : ∀ p ∈ ps, ∀ x ∈ p.bs, x < 256) : ∀ x ∈ ground ps, x < 256 := by
  induction ps with
  | nil => intro x hx; cases hx
  | cons p ps ih =>
    intro x hx
    simp only [ground, List.mem_append] at hx
    rcases hx with (hx | hx) | hx
    · exact h p (by simp) x hx
    · exact marks_lt 75 x hx
    · exact ih (fun q hq => h q (by simp [hq])) x hx
/-- the part k, cut out of the array in the block g -/
def cutP (g c : Nat) (ps : List PV) (k : Nat) : Value := .slice (some ⟨g, (ground (ps.take k)).length, none⟩) ((ps[k]?.map (fun p => p.bs.length)).getD 0) (c - (ground (ps.take k)).length)
def cutPs (g c : Nat) (ps : List PV) (k : Nat) : List Value := (List.range k).map (cutP g c ps)
theorem cutPs_len (g c : Nat) (ps : List PV) (k : Nat) : (cutPs g c ps k).length = k := by simp [cutPs]
theorem cutPs_succ (g c : Nat) (ps : List PV) (k : Nat) : cutPs g c ps (k + 1) = cutPs g c ps k ++ [cutP g c ps k] := by simp [cutPs, List.range_succ]

theorem cell_ptr' (w : World) (x : Value) (t : TypeId) : ∀ j u, [x][j]? = some u → (w.alloc (.cells #[x] t)).cell? ((⟨w.heap.size, 0, none⟩ : Addr).add j) = some u := by
  intro j u hj
  cases j with
  | zero =>
    simp at hj
    subst hj
    simp [go_sem, Addr.add]
  | succ j => simp at hj
set_option maxRecDepth 100000 in
set_option maxHeartbeats 800000 in
theorem cuts_any (pa : Option Addr) (cap : Nat) (ps : List PV) (w : World) (hp : PartsAt w none_ pa ps) (hpl : ps.length ≤ 1048576) (hsum : (flat ps).length + ps.length ≤ 4194304) :
    Calls Try.prog 41 #[.slice pa ps.length cap] w fun e w' => ∃ (lv : Value) (wa : Option Addr) (c : Nat), e = .returned (.tuple #[lv, .slice wa (ground ps).length c]) ∧
      w'.ownsRow w.heap.size 5 1 (.slice wa (ground ps).length c) (ground ps).length ((toI (ground ps)).map (Value.int .u8)) ∧
      (ps ≠ [] → ∃ g, wa = some ⟨g, 0, none⟩ ∧ w'.ownsRow w.heap.size 22 1 lv ps.length (cutPs g c ps ps.length)) ∧ (ps = [] → lv = .slice none 0 0) ∧ Below w.heap.size w w' := by
  obtain ⟨i0, hi, hz0, hz1, hz2⟩ := info_parts Try.infoByte
  obtain ⟨j0, gi, gz0, gz1, gz2⟩ := info_parts Try.infoSl
  go_enter Try.func41, Try.ntmps41
  go_wp2
  go_loopw [4, 5] (fun v ix wr => ∃ k : Nat, k ≤ ps.length ∧ ix = .int .i64 k ∧ wr.ownsRow w.heap.size 5 1 v (ground (ps.take k)).length ((toI (ground (ps.take k))).map (Value.int .u8)) ∧ Below w.heap.size w wr) (fun _ ix _ => ps.length - (intOf ix).toNat)
  case atStart => exact ⟨0, by omega, rfl, World.ownsRow_nil _ _ _ _, Below.refl _ _⟩
  case round =>
    obtain ⟨k, hk, rfl, hown, hbel⟩ := hrel
    by_cases hlt : k < ps.length
    · obtain ⟨p, hpk⟩ : ∃ p, ps[k]? = some p := ⟨ps[k], by simp [hlt]⟩
      have hgt := ground_take ps k p hpk
      have hgl := ground_take_len ps k hk
      have hgl2 := ground_take_len ps (k + 1) hlt
      have hfl := flat_le ps k
      have hft := flat_take ps k p hpk
      have hfl2 := flat_le ps (k + 1)
      rw [hft, List.length_append] at hfl2
      have hpw := hp.below hbel
      rcases hpw with hnil | ⟨b, off, rfl, hSb, hbl, hc⟩
      · rw [hnil] at hlt; simp at hlt
      obtain ⟨hcc, hsg, _⟩ := hc k p hpk
      obtain ⟨G, hG⟩ : ∃ G, G = ground (ps.take k) := ⟨_, rfl⟩
      rw [← hG] at hown hgt hgl
      have HGT : Hid (ground (ps.take (k + 1)) = G ++ (p.bs ++ marks 75)) := hgt
      have hGl : G.length + (p.bs.length + 75) ≤ 400000000 := by omega
      have hpb : p.bs.length ≤ 4194304 := by omega
      obtain ⟨q, hq⟩ : ∃ q, q = p.bs.length := ⟨_, rfl⟩
      rw [← hq] at hcc hGl hpb
      have HQ : Hid (p.bs.length = q) := hq.symm
      obtain ⟨gl, hgle⟩ : ∃ gl, gl = G.length := ⟨_, rfl⟩
      rw [← hgle] at hown hGl
      have HGL : Hid (gl = G.length) := hgle
      clear hgt hG hgl hgl2 hfl hfl2 hft hq hgle hc
      go_wp2_with fail
      refine (roomy_any p.a q p.cap p.bs wr HQ.out hsg (by omega)).mono ?_
      rintro e w1 ⟨rv, rfl, ho1, hb1⟩
      obtain ⟨ra, rc, rfl, hrs, hrl, _, _⟩ := owns_seg ho1
      have hown1 := (Ch.ofBelow (S := none_) hb1).owns hown (fun _ _ => id)
      have hbel1 : Below w.heap.size w w1 := hbel.trans (hb1.mono hbel.size)
      clear ho1 hown hbel hsg
      go_wp2_with (at_builtin; refine wpList_append_seg rfl (.tmp 16) (.tmp 21) 22 rfl w.heap.size 5 i0 (.int .u8 0) 1 Try.underlying22 hi hz0 hz1 hz2 rfl u4 gl _ rfl hown1 .u8 ra (q + 75) rc (toI (p.bs ++ marks 75)) rfl hrl hrs (by unfold maxLen; omega) (by omega) hbel1.size ?_)
      intro v2 w2 ho2 hg2
      have hbel2 : Below w.heap.size w w2 := hbel1.grown hg2 hbel1.size (fun j hj => (hown1.lt j hj).1)
      have ho3 : w2.ownsRow w.heap.size 5 1 v2 (ground (ps.take (k + 1))).length ((toI (ground (ps.take (k + 1)))).map (Value.int .u8)) := by
        rw [HGT.out]
        have e : (G ++ (p.bs ++ marks 75)).length = gl + (q + 75) := by rw [List.length_append, List.length_append, marks_len, HGL.out, HQ.out]
        rw [e]
        simpa [toI] using ho2
      clear ho2 hg2 hown1 hbel1 hrs hb1 hcc
      go_wp2
      go_roundw
      case rel => exact ⟨k + 1, by omega, by go_num, ho3, hbel2⟩
      case measure => simp [intOf]; omega
    · obtain rfl : k = ps.length := by omega
      rw [List.take_length] at hown
      by_cases h0 : ps = []
      · subst h0
        obtain ⟨wa, c, rfl⟩ := owns_shape hown
        go_wp2
        go_loop [6, 8] (fun v ix => v = .slice none 0 0 ∧ ix = .int .i64 0) (fun _ _ => 0)
        case atStart => exact ⟨rfl, rfl⟩
        case round =>
          obtain ⟨rfl, rfl⟩ := hrel
          go_wp2
          go_ret2
          exact ⟨_, wa, c, rfl, hown, rfl, hbel⟩
      · have hpos : 0 < ps.length := by
          cases ps with
          | nil => exact absurd rfl h0
          | cons _ _ => simp
        have hgl := ground_len ps
        obtain ⟨g, c, rfl, hgc, hcm⟩ := own_block hown (by omega)
        obtain ⟨w0, rfl⟩ : ∃ w0, w0 = wr := ⟨_, rfl⟩
        obtain ⟨W, hW⟩ : ∃ W, W = (ground ps).length := ⟨_, rfl⟩
        rw [← hW] at hown hgl hgc ⊢
        have HW : Hid (W = (ground ps).length) := hW
        have hWb : W ≤ 400000000 := by omega
        unfold maxLen at hcm
        clear hW hgl
        go_wp2
        go_loopw [6, 7, 8] (fun v a' ix wq => ∃ k : Nat, k ≤ ps.length ∧ ix = .int .i64 k ∧ a' = .int .i64 ((ground (ps.take k)).length : Nat) ∧ wq.ownsRow w0.heap.size 22 1 v k (cutPs g c ps k) ∧ Below w0.heap.size w0 wq) (fun _ _ ix _ => ps.length - (intOf ix).toNat)
        case atStart => exact ⟨0, by omega, rfl, by simp [ground], World.ownsRow_nil _ _ _ _, Below.refl _ _⟩
        case round =>
          obtain ⟨k, hk, rfl, rfl, hol, hbq⟩ := hrel
          by_cases hlt : k < ps.length
          · obtain ⟨p, hpk⟩ : ∃ p, ps[k]? = some p := ⟨ps[k], by simp [hlt]⟩
            have hgt := congrArg List.length (ground_take ps k p hpk)
            have hgl2 := ground_take_len ps (k + 1) hlt
            have hgf := ground_len ps
            have hfl2 := flat_le ps (k + 1)
            simp only [List.length_append, marks_len] at hgt
            have hpw := hp.below (hbel.trans (hbq.mono hbel.size))
            rcases hpw with hnil | ⟨b, off, rfl, hSb, hbl, hc⟩
            · rw [hnil] at hlt; simp at hlt
            obtain ⟨hcc, _, _⟩ := hc k p hpk
            have HCP : Hid (cutP g c ps k = .slice (some ⟨g, (ground (ps.take k)).length, none⟩) p.bs.length (c - (ground (ps.take k)).length)) := by
              show _ = _
              rw [cutP, hpk]; rfl
            obtain ⟨G, hG⟩ : ∃ G, G = (ground (ps.take k)).length := ⟨_, rfl⟩
            obtain ⟨q, hq⟩ : ∃ q, q = p.bs.length := ⟨_, rfl⟩
            rw [← hG, ← hq] at hgt HCP
            rw [← hG]
            rw [← hq] at hcc
            have hGq : G + q + 75 ≤ W := by have := HW.out; omega
            have HG2 : Hid ((ground (ps.take (k + 1))).length = G + q + 75) := by show _ = _; omega
            clear hgt hgl2 hgf hfl2 hG hq hc hpk
            go_wp2_with (first | (at_builtin; go_loud (refine wpList_append_own _ rfl (.tmp 34) (.tmp 41) 36 rfl w0.heap.size 22 j0 (.slice none 0 0) 1 24 Try.underlying36 gi gz0 gz1 gz2 rfl (by decide) _ _ _ rfl (hol.alloc _) ⟨wr.heap.size, 0, none⟩ 1 1 [.slice (some ⟨g, G, none⟩) q (c - G)] rfl rfl ?c1 ?c2 ?c3 ?c4 ?c5 ?_)))
            case c1 => exact cell_ptr' _ _ _
            case c2 => intro u hu; simp at hu; subst hu; rfl
            case c3 => unfold maxLen; omega
            case c4 => omega
            case c5 => have := hbq.size; simp; omega
            intro v2 w2 ho2 hg2 _
            have hbq2 : Below w0.heap.size w0 w2 := (hbq.alloc hbq.size _).grown hg2 (by have := hbq.size; simp; omega) (fun j hj => (hol.lt j hj).1)
            have ho3 : w2.ownsRow w0.heap.size 22 1 v2 (k + 1) (cutPs g c ps (k + 1)) := by
              rw [cutPs_succ, HCP.out]
              exact ho2
            clear ho2 hg2 hol hbq
            go_wp2
            go_roundw
            case rel => exact ⟨k + 1, by omega, by go_num, by rw [HG2.out]; go_num, ho3, hbq2⟩
            case measure => simp [intOf]; omega
          · obtain rfl : k = ps.length := by omega
            obtain ⟨r, hr⟩ : ∃ r, r = (ground (ps.take ps.length)).length := ⟨_, rfl⟩
            rw [← hr]
            clear hr
            go_wp2
            go_ret2
            have e := HW.out
            subst e
            refine ⟨u6, some ⟨g, 0, none⟩, c, rfl, (Ch.ofBelow (S := none_) hbq).owns hown (fun _ _ => id), fun _ => ⟨g, rfl, owns_mono hol hbel.size⟩, fun e => absurd e h0, hbel.trans (hbq.mono hbel.size)⟩
end Go.Proofs.Ytcgfdhmegagjdaa
