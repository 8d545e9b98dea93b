/-
  The statements' laid: parts cut out of one array, with marks.
-/
import Derived.Test.YtfnmidaiabjpbabLaid1
import Derived.Deep.DeepCutAuto
import Derived.Deep.CutBlock
namespace Go.Proofs.Ytfnmidaiabjpbab
open Go.RowKit

theorem Try.infoBytes : (Try.prog.info? 24).map (fun i => (i.zero, i.size, i.bytes)) = some (some (.slice none 0 0), 1, 24) := by kernel_rfl
theorem own_kind {w : World} {B : Nat} {e : TypeId} {v : Value} {n : Nat} {xs : List Value} (h : w.ownsRow B e 1 v n xs) : ∀ g, v.ownBlock = some g → ∃ c, w.heap[g]? = some (.cells c e (0, 0)) := by
  intro g hg
  rcases h.2 with ⟨rfl, _⟩ | ⟨g', cap, cur, rfl, _, hh, _⟩
  · simp [Value.ownBlock] at hg
  · simp [Value.ownBlock] at hg; subst hg; exact ⟨cur, hh⟩
/-- rows of unlike kinds lie apart -/
theorem own_apart {w : World} {B B' : Nat} {e e' : TypeId} {v v' : Value} {n n' : Nat} {xs xs' : List Value} (h : w.ownsRow B e 1 v n xs) (h' : w.ownsRow B' e' 1 v' n' xs') (hne : e ≠ e') : v.ownBlock = none ∨ v.ownBlock ≠ v'.ownBlock := by
  cases hv : v.ownBlock with
  | none => exact .inl rfl
  | some g =>
    refine .inr (fun hc => hne ?_)
    obtain ⟨c, hc1⟩ := own_kind h g hv
    obtain ⟨c', hc2⟩ := own_kind h' g hc.symm
    rw [hc1] at hc2
    simp at hc2
    exact hc2.2
theorem parts_own {w : World} {B : Nat} {e : TypeId} {a : Option Addr} {n c : Nat} {ps : List Part} (h : w.ownsRow B e 1 (.slice a n c) n (ps.map Part.val)) (hok : ∀ p ∈ ps, p.ok w) : Parts w a ps := by
  have hl : ps.length = n := by have := h.1; simpa using this
  refine ⟨?_, hok⟩
  rcases h.2 with ⟨hv, h0⟩ | ⟨g, cap, cur, hv, hg, hh, hnc, hcm, r⟩
  · exact .inl (List.eq_nil_of_length_eq_zero (by omega))
  · simp only [Value.slice.injEq, true_and] at hv
    obtain ⟨rfl, rfl⟩ := hv
    refine .inr ⟨g, 0, rfl, fun i hi => ?_⟩
    rw [Nat.zero_add, h.cellAt i (by omega)]
    simp [hi]
def Piece (g cap : Nat) (l : List Nat) (p : Part) : Prop := ∃ off len, p = ⟨some ⟨g, off, none⟩, cap - off, (l.drop off).take len⟩ ∧ off + len ≤ l.length
theorem Piece.ok {g cap B n : Nat} {l : List Nat} {p : Part} {w : World} (h : Piece g cap l p) (ho : OwnB w B (.slice (some ⟨g, 0, none⟩) n cap) n l) (h256 : ∀ x ∈ l, x < 256) : p.ok w := by
  obtain ⟨off, len, rfl, hl⟩ := h
  obtain ⟨hs, h1, h2⟩ := owns_seg_at ho
  have hn := ho.len
  refine ⟨?_, fun x hx => h256 x (List.mem_of_mem_drop (List.mem_of_mem_take hx)), ?_, ?_⟩
  · have := hs.part off len (by rw [toI_len]; exact hl)
    simp only [Option.map_some, Addr.add_lit, Nat.zero_add] at this
    rw [toI_drop, toI_take] at this
    exact this
  · show ((l.drop off).take len).length ≤ cap - off
    simp; omega
  · show cap - off ≤ _
    omega
theorem own_form {w : World} {B : Nat} {v : Value} {n : Nat} {l : List Nat} (h : OwnB w B v n l) (hn : 0 < n) : ∃ g c, v = .slice (some ⟨g, 0, none⟩) n c ∧ B ≤ g ∧ g < w.heap.size := by
  rcases h.2 with ⟨_, h0⟩ | ⟨g, cap, cur, rfl, hg, hh, r⟩
  · omega
  · exact ⟨g, cap, rfl, hg, by rcases Nat.lt_or_ge g w.heap.size with h | h; exact h; rw [Array.getElem?_eq_none h] at hh; cases hh⟩

/-- the ends of the parts, from a place on, within n bytes -/
def Ends : Nat → List Nat → Nat → Prop
  | f, [], n => f ≤ n
  | f, e :: es, n => f ≤ e ∧ Ends (e + 1) es n
theorem Ends.snoc {f : Nat} {es : List Nat} {n e : Nat} (h : Ends f es n) (hn : n ≤ e) : Ends f (es ++ [e]) (e + 1) := by
  induction es generalizing f with
  | nil => have h' : f ≤ n := h; exact ⟨by omega, Nat.le_refl _⟩
  | cons x es ih => exact ⟨h.1, ih h.2⟩
theorem Ends.mono {f : Nat} {es : List Nat} {n n' : Nat} (h : Ends f es n) (hn : n ≤ n') : Ends f es n' := by
  induction es generalizing f with
  | nil => have h' : f ≤ n := h; show f ≤ n'; omega
  | cons x es ih => exact ⟨h.1, ih h.2⟩
theorem Ends.at {f : Nat} {es : List Nat} {n : Nat} (h : Ends f es n) : ∀ x xs, es = x :: xs → f ≤ x ∧ x < n ∧ Ends (x + 1) xs n := by
  intro x xs he
  subst he
  refine ⟨h.1, ?_, h.2⟩
  have : ∀ (f : Nat) (es : List Nat), Ends f es n → f ≤ n := by
    intro f es
    induction es generalizing f with
    | nil => exact fun h => h
    | cons y es ih => intro h; have := ih _ h.2; have := h.1; omega
  have := this _ _ h.2
  omega
theorem u8_small (x : Int) (h0 : 0 ≤ x) (h1 : x < 256) : IntKind.u8.wrap x = x := by
  simp [IntKind.wrap, IntKind.bits, IntKind.signed]; omega
def toV (l : List Nat) : List Value := l.map (fun x : Nat => Value.int .i64 (x : Int))

set_option maxHeartbeats 1600000 in
set_option maxRecDepth 100000 in
theorem laid_any (a : Option Addr) (n cap : Nat) (ps : List Part) (w : World) (hn : ps.length = n) (hps : Parts w a ps) (hn2 : n ≤ 9223372036854775807) :
    Calls Try.prog 8 #[.slice a n cap] w fun e w' => ∃ (oa : Option Addr) (oc g m c : Nat) (wa : Option Addr) (wc : Nat) (qs : List Part) (AL : List Nat),
      e = .returned (.tuple #[.slice oa qs.length oc, .slice (some ⟨g, 0, none⟩) m c, .slice wa m wc]) ∧ w'.ownsRow w.heap.size 24 1 (.slice oa qs.length oc) qs.length (qs.map Part.val) ∧
      OwnB w' w.heap.size (.slice (some ⟨g, 0, none⟩) m c) m AL ∧ OwnB w' w.heap.size (.slice wa m wc) m AL ∧ (∀ q ∈ qs, Piece g c AL q) ∧ (∀ x ∈ AL, x < 256) ∧ m ≤ 131076 ∧ (allB qs).length ≤ 131076 ∧ qs.length ≤ 300 ∧ Below w.heap.size w w' := by
  subst hn
  obtain ⟨i0, hi, hz0, hz1, hz2⟩ := info_parts Try.infoByte
  obtain ⟨j0, hj, hy0, hy1, hy2⟩ := info_parts Try.infoInt
  obtain ⟨k0, hkk, hx0, hx1, hx2⟩ := info_parts Try.infoBytes
  obtain ⟨hcells, hok⟩ := hps
  go_enter Try.func8, Try.ntmps8
  go_upto_block 0 with fail
  go_cut [5, 6] (fun v5 v6 wx => ∃ (m e : Nat) (AL EL : List Nat), OwnB wx w.heap.size v5 m AL ∧ wx.ownsRow w.heap.size 3 1 v6 e (toV EL) ∧ Hid (Ends 0 EL m) ∧ m ≤ 131073 ∧ e ≤ 300 ∧ (∀ x ∈ AL, x < 256) ∧ Below w.heap.size w wx)
  case first =>
    go_wp2_with fail
    go_loopw [5, 6, 7] (fun v5 v6 ix wr => ∃ (k m : Nat) (AL EL : List Nat), k ≤ 300 ∧ k ≤ ps.length ∧ ix = .int .i64 k ∧ OwnB wr w.heap.size v5 m AL ∧ wr.ownsRow w.heap.size 3 1 v6 k (toV EL) ∧ Hid (Ends 0 EL m) ∧ m ≤ 131073 ∧ (∀ x ∈ AL, x < 256) ∧ Below w.heap.size w wr) (fun _ _ ix _ => 300 - (intOf ix).toNat)
    case atStart => exact ⟨0, 0, [], [], by omega, by omega, rfl, World.ownsRow_nil _ _ _ _, World.ownsRow_nil _ _ _ _, Nat.le_refl 0, by omega, (fun x hx => by cases hx), Below.refl _ _⟩
    case round =>
      obtain ⟨k, m, AL, EL, hk3, hkn, rfl, ho, he, HE, hm, hA, hbel⟩ := hrel
      by_cases hlt : k < ps.length
      · by_cases hk300 : k < 300
        · rcases hcells with hnil | ⟨b, off, rfl, hc⟩
          · rw [hnil] at hlt; simp at hlt
          have hcell := (hbel.cell (p := ⟨b, off + k, none⟩) (World.block_lt_of_cell? w _ (hc k hlt))).trans (hc k hlt)
          have hp := (hok _ (List.getElem_mem hlt)).old hbel
          obtain ⟨p, hpe⟩ : ∃ p, p = ps[k] := ⟨_, rfl⟩
          rw [← hpe] at hcell hp
          obtain ⟨pa, pc, l⟩ := p
          obtain ⟨hseg, hl256, hlc, hpc⟩ := hp
          simp only [Part.val] at hcell hseg hl256 hlc hpc
          obtain ⟨oa, oc, rfl⟩ := owns_shape ho
          have HLL : Hid ((toI l).length = l.length) := toI_len l
          clear hpe hc
          by_cases hfit : m + l.length ≤ 131072
          · have hmk : IntKind.u8.wrap (201 + (k : Int) % 50) = ((201 + k % 50 : Nat) : Int) := by rw [u8_small _ (by omega) (by omega)]; omega
            obtain ⟨mk, hmkv⟩ : ∃ mk, mk = 201 + k % 50 := ⟨_, rfl⟩
            rw [← hmkv] at hmk
            have hmk2 : mk < 256 := by omega
            clear hmkv
            go_wp2_with (first | (at_builtin; refine wpList_append_seg rfl (.tmp 32) (.tmp 33) 24 rfl w.heap.size 5 i0 (.int .u8 0) 1 Try.underlying24 hi hz0 hz1 hz2 rfl _ m _ rfl ho .u8 pa l.length pc (toI l) rfl HLL.out hseg (by unfold maxLen; omega) (by omega) hbel.size ?_))
            intro v1 w1 ho1' hg1
            have hb1 : Below w.heap.size w w1 := hbel.grown hg1 hbel.size (fun j hj => (ho.lt j hj).1)
            have ho1 : OwnB w1 w.heap.size v1 (m + l.length) (AL ++ l) := by simpa [OwnB, toI] using ho1'
            have he1 := he.kept hg1 (own_apart he ho (by decide))
            obtain ⟨o1a, o1c, rfl⟩ := owns_shape ho1'
            clear ho1' hg1 ho he hbel
            go_wp2_with (first | (at_builtin; refine wpList_append_own _ rfl (.tmp 35) (.tmp 38) 58 rfl w.heap.size 3 j0 (.int .i64 0) 1 8 Try.underlying58 hj hy0 hy1 hy2 rfl (by decide) _ _ _ rfl (he1.alloc _) ⟨w1.heap.size, 0, none⟩ 1 1 [.int .i64 ((m : Int) + (l.length : Int))] rfl rfl ?c1 ?c2 ?c3 ?c4 ?c5 ?_))
            case c1 => exact cell_one_new _ _ _
            case c2 => intro u hu; simp at hu; subst hu; rfl
            case c3 => unfold maxLen; omega
            case c4 => omega
            case c5 => have := hb1.size; simp; omega
            intro v2 w2 he2' hg2 _
            have he2 : w2.ownsRow w.heap.size 3 1 v2 (k + 1) (toV (EL ++ [m + l.length])) := by
              have e : toV (EL ++ [m + l.length]) = toV EL ++ [.int .i64 ((m : Int) + (l.length : Int))] := by simp [toV]
              rw [e]; exact he2'
            have hb2 : Below w.heap.size w w2 := (hb1.alloc hb1.size _).grown hg2 (by have := hb1.size; simp; omega) (fun j hj => (he1.lt j hj).1)
            have ho2 : OwnB w2 w.heap.size (.slice o1a (m + l.length) o1c) (m + l.length) (AL ++ l) := (ho1.alloc _).kept hg2 (own_apart ho1 he1 (by decide))
            clear he2' hg2 he1 ho1 hb1
            go_wp2_with (first | (at_builtin; refine wpList_append_own _ rfl (.tmp 40) (.tmp 45) 24 rfl w.heap.size 5 i0 (.int .u8 0) 1 1 Try.underlying24 hi hz0 hz1 hz2 rfl (by decide) _ _ _ rfl (ho2.alloc _) ⟨w2.heap.size, 0, none⟩ 1 1 [.int .u8 (mk : Int)] rfl rfl ?c1 ?c2 ?c3 ?c4 ?c5 ?_))
            case c1 => exact cell_one_new _ _ _
            case c2 => first | rfl | (intro u hu; simp at hu; subst hu; rfl)
            case c3 => unfold maxLen; omega
            case c4 => omega
            case c5 => have := hb2.size; simp; omega
            intro v3 w3 ho3' hg3 _
            have ho3 : OwnB w3 w.heap.size v3 (m + l.length + 1) (AL ++ l ++ [mk]) := by simpa [OwnB, toI] using ho3'
            have hb3 : Below w.heap.size w w3 := (hb2.alloc hb2.size _).grown hg3 (by have := hb2.size; simp; omega) (fun j hj => (ho2.lt j hj).1)
            have he3 := (he2.alloc (.cells #[.int .u8 (mk : Int)] 5)).kept hg3 (own_apart he2 ho2 (by decide))
            clear ho3' hg3 he2 ho2 hb2
            go_wp2
            go_roundw
            case rel => exact ⟨k + 1, m + l.length + 1, AL ++ l ++ [mk], EL ++ [m + l.length], by omega, by omega, by go_num, ho3, he3, Ends.snoc HE.out (by omega), by omega, (fun x hx => by
              simp only [List.mem_append, List.mem_cons, List.not_mem_nil, or_false] at hx
              rcases hx with (hx | hx) | rfl
              · exact hA x hx
              · exact hl256 x hx
              · exact hmk2), hb3⟩
            case measure => simp [intOf]; omega
          · have hnf : (l.length : Int) > 131072 - (m : Int) := by omega
            go_wp2
            go_meet
            exact ⟨m, k, AL, EL, ho, he, HE, hm, hk3, hA, hbel⟩
        · obtain rfl : k = 300 := by omega
          obtain ⟨oa, oc, rfl⟩ := owns_shape ho
          go_wp2
          go_meet
          exact ⟨m, 300, AL, EL, ho, he, HE, hm, hk3, hA, hbel⟩
      · have hlt' : ¬ (k : Int) < (ps.length : Int) := by omega
        go_wp2
        go_meet
        exact ⟨m, k, AL, EL, ho, he, HE, hm, hk3, hA, hbel⟩
  case rest =>
  obtain ⟨m, e, AL, EL, ho, he, HE, hm, he300, hA, hb1⟩ := hcut
  clear hcells hok
  obtain ⟨oa, oc, rfl⟩ := owns_shape ho
  obtain ⟨ea, ec, rfl⟩ := owns_shape he
  go_wp2_with (first | (at_builtin; refine wpList_append_own _ rfl (.tmp 47) (.tmp 48) 24 rfl w.heap.size 5 i0 (.int .u8 0) 1 1 Try.underlying24 hi hz0 hz1 hz2 rfl (by decide) _ _ _ rfl (ho.alloc _) ⟨wc.heap.size, 0, none⟩ 3 3 [.int .u8 91, .int .u8 92, .int .u8 93] rfl rfl ?c1 ?c2 ?c3 ?c4 ?c5 ?_))
  case c1 =>
    intro j u hj
    rw [Addr.add_lit, Nat.zero_add, World.cell?_alloc_at _ _ _ _ rfl]
    simpa using hj
  case c2 => intro u hu; simp at hu; rcases hu with rfl | rfl | rfl <;> rfl
  case c3 => unfold maxLen; omega
  case c4 => omega
  case c5 => have := hb1.size; simp; omega
  intro v2 w2 ho2' hg2 _
  have ho2 : OwnB w2 w.heap.size v2 (m + 3) (AL ++ [91, 92, 93]) := by simpa [OwnB, toI] using ho2'
  have hb2 : Below w.heap.size w w2 := (hb1.alloc hb1.size _).grown hg2 (by have := hb1.size; simp; omega) (fun j hj => (ho.lt j hj).1)
  have he2 := (he.alloc (.cells #[.int .u8 91, .int .u8 92, .int .u8 93] 5)).kept hg2 (own_apart he ho (by decide))
  have hA2 : ∀ x ∈ AL ++ [91, 92, 93], x < 256 := fun x hx => by
    simp only [List.mem_append, List.mem_cons, List.not_mem_nil, or_false] at hx
    rcases hx with hx | rfl | rfl | rfl
    · exact hA x hx
    · decide
    · decide
    · decide
  have HE2 : Hid (Ends 0 EL (m + 3)) := Ends.mono HE.out (by omega)
  obtain ⟨A2, hA2e⟩ : ∃ A2, A2 = AL ++ [91, 92, 93] := ⟨_, rfl⟩
  rw [← hA2e] at ho2 hA2
  obtain ⟨M, hM⟩ : ∃ M, M = m + 3 := ⟨_, rfl⟩
  rw [← hM] at ho2 HE2
  have hM1 : 3 ≤ M := by omega
  have hM2 : M ≤ 131076 := by omega
  obtain ⟨g, c, rfl, hgB, hgs⟩ := own_form ho2 (by omega)
  have hMc := (owns_seg_at ho2).2.1
  have hcm := (owns_seg_at ho2).2.2
  have HAL : Hid (A2.length = M) := ho2.len
  have HEL : Hid (EL.length = e) := by have h := he2.1; rw [toV, List.length_map, Nat.mul_one] at h; exact h
  clear ho2' hg2 ho he hb1 hA HE hA2e hM hm
  go_wp2
  go_loopw [9, 10, 11] (fun pv fv ix wr => ∃ (k f : Nat) (qs : List Part), k ≤ e ∧ qs.length = k ∧ ix = .int .i64 k ∧ fv = .int .i64 f ∧ f ≤ M ∧ Hid (Ends f (EL.drop k) M) ∧ wr.ownsRow w.heap.size 24 1 pv k (qs.map Part.val) ∧ Hid (∀ q ∈ qs, Piece g c A2 q) ∧ (allB qs).length ≤ f ∧ OwnB wr w.heap.size (.slice (some ⟨g, 0, none⟩) M c) M A2 ∧ wr.ownsRow w.heap.size 3 1 (.slice ea e ec) e (toV EL) ∧ Below w.heap.size w wr) (fun _ _ ix _ => e - (intOf ix).toNat)
  case atStart => exact ⟨0, 0, [], by omega, rfl, rfl, rfl, by omega, HE2, World.ownsRow_nil _ _ _ _, (fun q hq => by cases hq), by simp [allB], ho2, he2, hb2⟩
  case round =>
    obtain ⟨k, f, qs, hk, hq, rfl, rfl, hf, HF, hop, HPI, hlen, ho3, he3, hb3⟩ := hrel
    clear ho2 he2 hb2
    by_cases hlt : k < e
    · have hdr : EL.drop k = EL[k]'(by rw [HEL.out]; exact hlt) :: EL.drop (k + 1) := List.drop_eq_getElem_cons (by rw [HEL.out]; exact hlt)
      obtain ⟨h1, h2, h3⟩ := Ends.at HF.out _ _ hdr
      rcases he3.2 with ⟨hv, h0⟩ | ⟨eg, ecap, ecur, hv, _⟩
      · omega
      simp only [Value.slice.injEq, true_and] at hv
      obtain ⟨rfl, rfl⟩ := hv
      have ce : wr.cell? ⟨eg, k, none⟩ = some (.int .i64 ((EL[k]'(by rw [HEL.out]; exact hlt) : Nat) : Int)) := by
        rw [he3.cellAt k (by omega)]; simp [toV, show k < EL.length by rw [HEL.out]; exact hlt]
      obtain ⟨x, hx⟩ : ∃ x, x = EL[k]'(by rw [HEL.out]; exact hlt) := ⟨_, rfl⟩
      rw [← hx] at h1 h2 h3 ce
      have HF2 : Hid (Ends (x + 1) (EL.drop (k + 1)) M) := h3
      have hcf : ¬ c = f := by omega
      have hfx : (f : Int) ≤ (x : Int) := by omega
      have hxc : (x : Int) ≤ (c : Int) := by omega
      have hpc : Piece g c A2 ⟨some ⟨g, f, none⟩, c - f, (A2.drop f).take (x - f)⟩ := ⟨f, x - f, rfl, by rw [HAL.out]; omega⟩
      have hpl : ((A2.drop f).take (x - f)).length = x - f := by rw [List.length_take, List.length_drop, HAL.out]; omega
      have hpv : (qs ++ [Part.mk (some ⟨g, f, none⟩) (c - f) ((A2.drop f).take (x - f))]).map Part.val = qs.map Part.val ++ [.slice (some ⟨g, f, none⟩) (x - f) (c - f)] := by rw [List.map_append, List.map_cons, List.map_nil, Part.val, hpl]
      have HPV : Hid _ := hpv
      have HPC : Hid _ := hpc
      have hall : (allB (qs ++ [Part.mk (some ⟨g, f, none⟩) (c - f) ((A2.drop f).take (x - f))])).length ≤ x + 1 := by
        unfold allB at *
        rw [List.flatMap_append, List.length_append]
        simp only [List.flatMap_cons, List.flatMap_nil, List.append_nil]
        rw [hpl]
        omega
      have HALL : Hid _ := hall
      clear hdr hx h3 hpc hpl hpv hall
      go_wp2_with (first | (at_builtin; refine wpList_append_own _ rfl (.tmp 56) (.tmp 64) 22 rfl w.heap.size 24 k0 (.slice none 0 0) 1 24 Try.underlying22 hkk hx0 hx1 hx2 rfl (by decide) _ _ _ rfl (hop.alloc _) ⟨wr.heap.size, 0, none⟩ 1 1 [.slice (some ⟨g, f, none⟩) (x - f) (c - f)] rfl rfl ?c1 ?c2 ?c3 ?c4 ?c5 ?_))
      case c1 => exact cell_one_new _ _ _
      case c2 => intro u hu; simp at hu; subst hu; rfl
      case c3 => unfold maxLen; omega
      case c4 => omega
      case c5 => have := hb3.size; simp; omega
      intro v6 w6 ho6 hg6 _
      have ho7 : OwnB w6 w.heap.size (.slice (some ⟨g, 0, none⟩) M c) M A2 := (ho3.alloc _).kept hg6 (own_apart ho3 hop (by decide))
      have he7 := (he3.alloc (.cells #[.slice (some ⟨g, f, none⟩) (x - f) (c - f)] 24)).kept hg6 (own_apart he3 hop (by decide))
      have hb7 : Below w.heap.size w w6 := (hb3.alloc hb3.size _).grown hg6 (by have := hb3.size; simp; omega) (fun j hj => (hop.lt j hj).1)
      rw [← HPV.out] at ho6
      have ce7 : w6.cell? ⟨eg, k, none⟩ = some (.int .i64 (x : Int)) := by
        rw [he7.cellAt k (by omega), ← he3.cellAt k (by omega)]; exact ce
      clear hg6 hop ho3 he3 hb3 ce
      go_wp2
      go_roundw
      case rel => exact ⟨k + 1, x + 1, qs ++ [⟨some ⟨g, f, none⟩, c - f, (A2.drop f).take (x - f)⟩], by omega, by rw [List.length_append, hq]; rfl, by go_num, by go_num, by omega, HF2, ho6, (fun p hp => by rcases List.mem_append.1 hp with hp | hp; exact HPI.out p hp; simp at hp; subst hp; exact HPC.out), HALL.out, ho7, he7, hb7⟩
      case measure => simp [intOf]; omega
    · obtain rfl : k = e := by omega
      have hoseg := (owns_seg_at ho3).1
      go_wp2_with (first | (at_builtin; refine wpList_append_seg rfl (.const (.slice none 0 0)) (.tmp 73) 24 rfl wr.heap.size 5 i0 (.int .u8 0) 1 Try.underlying24 hi hz0 hz1 hz2 rfl (.slice none 0 0) 0 [] rfl (World.ownsRow_nil _ _ _ _) .u8 _ _ _ (toI A2) rfl (by rw [toI_len, HAL.out]) hoseg (by unfold maxLen; omega) (by omega) (Nat.le_refl _) ?_))
      intro v8 w8 ho8' hg8
      have ho8 : OwnB w8 w.heap.size v8 M A2 := owns_mono ho8' hb3.size
      have hb8 : Below w.heap.size w w8 := hb3.grown hg8 hb3.size (by intro k hk; simp [Value.ownBlock] at hk)
      have hoA : OwnB w8 w.heap.size (.slice (some ⟨g, 0, none⟩) M c) M A2 := ho3.kept hg8 (by simp [Value.ownBlock])
      have hopA := hop.kept hg8 (by cases hv : Value.ownBlock _ <;> simp [Value.ownBlock])
      obtain ⟨wa, wcc, rfl⟩ := owns_shape ho8'
      obtain ⟨pa, pc, hpv⟩ := owns_shape hop
      subst hpv
      clear ho8' hg8
      go_wp2
      go_ret3
      exact ⟨pa, pc, g, M, c, wa, wcc, qs, A2, by rw [hq]; rfl, by rw [hq]; exact hopA, hoA, ho8, HPI.out, hA2, hM2, by omega, by omega, hb8⟩
end Go.Proofs.Ytfnmidaiabjpbab
