/-
  Layer 20, captures: what a capture says; a list of frames in memory; ReadCapture.
-/
import Derived.Test.YtpdfepnifjolkaaDC2
import Derived.Lib.SlBytesConst
namespace Go.Proofs.Ytpdfepnifjolkaa
open Go.RowKit Go.ChangeShapes Go.WideShapes

abbrev CV := Int × Int × Bool × List Nat
def cvt (c : CE) : CV := (c.tk, c.pt, c.ou, c.d)
/-- the first frame of some bytes -/
def frF (l : List Nat) : CV := (((num (l.take 4) : Nat) : Int), ((l.getD 4 0 : Nat) : Int), l.getD 5 0 == 1, (l.drop 8).take (szF l))
/-- what is read from a place on: the frames, the error, its place -/
def rdF (bs : List Nat) (i : Nat) : List CV × Int × Int :=
  if _h : i < bs.length then
    match badF (bs.drop i) with
    | some p => ([], 204, ((i + p : Nat) : Int))
    | none => (if (rdF bs (i + (8 + szF (bs.drop i)))).2.1 = 0 then frF (bs.drop i) :: (rdF bs (i + (8 + szF (bs.drop i)))).1 else [], (rdF bs (i + (8 + szF (bs.drop i)))).2)
  else ([], 0, 0)
termination_by bs.length - i
def app (cs : List CV) (r : List CV × Int × Int) : List CV × Int × Int := (if r.2.1 = 0 then cs ++ r.1 else [], r.2)
theorem app_nil (r : List CV × Int × Int) (h : r.2.1 = 0 ∨ r.1 = []) : app [] r = r := by
  unfold app
  by_cases e : r.2.1 = 0
  · rw [if_pos e]; rfl
  · rw [if_neg e]
    rcases h with h | h
    · exact absurd h e
    · rw [← h]
theorem rdF_nil (bs : List Nat) (i : Nat) : (rdF bs i).2.1 = 0 ∨ (rdF bs i).1 = [] := by
  unfold rdF
  split
  · split
    · exact .inr rfl
    · by_cases e : (rdF bs (i + (8 + szF (bs.drop i)))).2.1 = 0
      · exact .inl e
      · exact .inr (if_neg e)
  · exact .inl rfl
theorem rdF_end (bs : List Nat) (i : Nat) (h : ¬ i < bs.length) : rdF bs i = ([], 0, 0) := by unfold rdF; rw [dif_neg h]
theorem rdF_bad (bs : List Nat) (i p : Nat) (h : i < bs.length) (hb : badF (bs.drop i) = some p) : rdF bs i = ([], 204, ((i + p : Nat) : Int)) := by unfold rdF; rw [dif_pos h, hb]
theorem rdF_step (cs : List CV) (bs : List Nat) (i : Nat) (h : i < bs.length) (hb : badF (bs.drop i) = none) : app cs (rdF bs i) = app (cs ++ [frF (bs.drop i)]) (rdF bs (i + (8 + szF (bs.drop i)))) := by
  rw [rdF, dif_pos h, hb]
  unfold app
  by_cases e : (rdF bs (i + (8 + szF (bs.drop i)))).2.1 = 0
  · simp [e]
  · simp [e]
/-- what ReadCapture answers -/
def rdA (bs : List Nat) : List CV × Int × Int := if bs.take mg.length = mg then rdF bs 8 else ([], 204, 0)
theorem bad_fit {l : List Nat} (h : badF l = none) : 8 + szF l ≤ l.length := by
  unfold badF at h
  split at h
  · cases h
  · split at h
    · cases h
    · split at h
      · cases h
      · omega
theorem szF_lt {l : List Nat} (h : ∀ x ∈ l, x < 256) : szF l < 65536 := by unfold szF; have h6 := get256 h 6; have h7 := get256 h 7; omega
theorem seg_mark (w : World) (l : List Int) (t : TypeId) (f : Nat × Nat) : Seg .u8 (w.alloc (.cells ((l.map (Value.int .u8)).toArray) t f)) (some ⟨w.heap.size, 0, none⟩) l := by
  refine .inr ⟨_, _, rfl, fun i hi => ?_⟩
  have hn := heap_alloc_new w (.cells ((l.map (Value.int .u8)).toArray) t f)
  rw [Nat.zero_add]
  unfold World.cell?
  simp only [hn]
  simp [List.getD, hi]
/-- the slice of a frame's bytes -/
def CE.v (c : CE) : Value := .slice c.a c.d.length c.cap
/-- a list of frames that is the call's own, each with bytes of its own -/
structure Caps (w : World) (base : Nat) (v : Value) (L : List CE) : Prop where
  l : GL 4 ceL 37 w base v L
  d : ∀ c ∈ L, OwnB w base c.v c.d.length c.d
  ne : L.Pairwise (fun c e => ∀ g, c.v.ownBlock = some g → e.v.ownBlock ≠ some g)
theorem OwnB.kind {w : World} {base n : Nat} {v : Value} {l : List Nat} (h : OwnB w base v n l) : ∀ g, v.ownBlock = some g → base ≤ g ∧ g < w.heap.size ∧ ∃ c, w.heap[g]? = some (.cells c 5 (0, 0)) := by
  intro g hg
  obtain ⟨c, hc⟩ := Go.Proofs.Ytpdfepnifjolkaa.kind h g hg
  exact ⟨(h.lt g hg).1, (Array.getElem?_eq_some_iff.1 hc).1, c, hc⟩
theorem Below.owns_ch {w b : World} {base n : Nat} {v : Value} {l : List Nat} (h : OwnB w base v n l) (k : Below w.heap.size w b) : OwnB b base v n l := (Ch.ofBelow (S := fun _ => False) k).owns h (fun _ _ => id)
theorem Caps.nil (w : World) (base : Nat) : Caps w base (.slice none 0 0) [] := ⟨GL.nil, by simp, List.Pairwise.nil⟩
theorem Caps.ch {S : Nat → Prop} {w b : World} {base : Nat} {v : Value} {L : List CE} (h : Caps w base v L) (k : Ch S w b) (h1 : ∀ g, v.ownBlock = some g → ¬ S g) (h2 : ∀ c ∈ L, ∀ g, c.v.ownBlock = some g → ¬ S g) : Caps b base v L :=
  ⟨h.l.ch k h1, fun c hc => k.owns (h.d c hc) (h2 c hc), h.ne⟩
theorem Caps.below {w b : World} {base : Nat} {v : Value} {L : List CE} (h : Caps w base v L) (k : Below w.heap.size w b) : Caps b base v L := h.ch (Ch.ofBelow (S := fun _ => False) k) (fun _ _ => id) (fun _ _ _ _ => id)
theorem Caps.apart {w : World} {base : Nat} {v : Value} {L : List CE} (h : Caps w base v L) : ∀ c ∈ L, ∀ g, c.v.ownBlock = some g → ¬ v.ownBlock = some g := fun c hc g hg e => by
  obtain ⟨_, _, x, hx⟩ := (h.d c hc).kind g hg
  obtain ⟨_, _, y, hy⟩ := h.l.kind g e
  rw [hx] at hy
  simp at hy
/-- one more frame -/
theorem Caps.push {w0 w w' : World} {base : Nat} {v v' : Value} {L : List CE} {c : CE} (h : Caps w base v L) (hg : GL 4 ceL 37 w' base v' (L ++ [c])) (k : w.grownBy w' v.ownBlock) (hc : OwnB w w0.heap.size c.v c.d.length c.d) (hb : base ≤ w0.heap.size) (hlt : ∀ e ∈ L, ∀ g, e.v.ownBlock = some g → g < w0.heap.size) : Caps w' base v' (L ++ [c]) := by
  have kc := Ch.ofGrown k
  have hcn : ∀ g, c.v.ownBlock = some g → ¬ v.ownBlock = some g := fun g hg e => by
    obtain ⟨_, _, x, hx⟩ := hc.kind g hg
    obtain ⟨_, _, y, hy⟩ := h.l.kind g e
    rw [hx] at hy
    simp at hy
  refine ⟨hg, fun e he => ?_, ?_⟩
  · rcases List.mem_append.1 he with he | he
    · exact kc.owns (h.d e he) (h.apart e he)
    · simp only [List.mem_cons, List.not_mem_nil, or_false] at he
      subst he
      exact kc.owns (owns_mono hc hb) hcn
  · refine List.pairwise_append.2 ⟨h.ne, List.pairwise_cons.2 ⟨by simp, List.Pairwise.nil⟩, fun e he x hx g hgg hq => ?_⟩
    simp only [List.mem_cons, List.not_mem_nil, or_false] at hx
    subst hx
    have h1 := hlt e he g hgg
    have h2 := (hc.lt g hq).1
    omega
theorem Caps.lt {w : World} {base : Nat} {v : Value} {L : List CE} (h : Caps w base v L) : ∀ c ∈ L, ∀ g, c.v.ownBlock = some g → g < w.heap.size := fun c hc g hg => ((h.d c hc).kind g hg).2.1
theorem run_bs1c (x : CE) (w : World) : (Instr.buildSlice 23 1 #[(0, .agg (ceA x))]).run Try.prog w = .ok (.slice (some ⟨w.heap.size, 0, none⟩) 1 1) (w.alloc (.cells (ceA x) 37)) := by kernel_rfl
theorem wpList_bs1c {ops : Array Oper} {rest : List Oper} {o : Oper} {a : Act} {w : World} {Q : Exit → Act → World → Prop} (y : Operand) (ho : o.op = .buildSlice 23 1 #[(0, y)]) (x : CE) (hx : a.eval y = .agg (ceA x)) (hw : Region.wanted o (yielded ops a.tmps) = true)
    (h : ∀ B W, Hid (w.heap.size = B ∧ W.heap.size = B + 1) → W.rangeAt B 0 (ceL x) → Below w.heap.size w W → wpList Try.prog ops Q rest (a.put o.dst (.slice (some ⟨B, 0, none⟩) 1 1)) W) : wpList Try.prog ops Q (o :: rest) a w := by
  refine wpList_step fun K hK => ?_
  rw [if_pos hw]
  unfold Oper.wp execOp
  simp only [ho, Sem.run_bind, List.map_toArray, List.map_cons, List.map_nil, hx, run_bs1c x w, Result.andThen_ok]
  refine hK _ _ (h _ _ ⟨rfl, World.size_alloc _ _⟩ (fun j u hj => ?_) ((Below.refl _ _).alloc (Nat.le_refl _) _))
  rw [World.cell?_alloc_at _ _ _ _ rfl, Nat.zero_add]
  simpa [ceL] using hj
set_option maxHeartbeats 1600000 in
set_option maxRecDepth 100000 in
theorem read_any (w : World) (a : Option Addr) (n k : Nat) (bs : List Nat) (hn : bs.length = n) (hk : n ≤ k) (hn2 : n ≤ 800000000000) (hs : Seg .u8 w a (toI bs)) (h256 : ∀ x ∈ bs, x < 256) : Calls Try.prog 6 #[.slice a n k] w fun e w' => Below w.heap.size w w' ∧ ∃ v L, Caps w' w.heap.size v L ∧ L.map cvt = (rdA bs).1 ∧ e = .returned (.tuple #[v, .int .i64 (rdA bs).2.1, .int .i64 (rdA bs).2.2]) := by
  have HS : Hid (Seg .u8 w a (toI bs) ∧ bs.length = n ∧ (∀ x ∈ bs, x < 256) ∧ n ≤ k) := ⟨hs, hn, h256, hk⟩
  clear hs hn h256
  have QP : Hid (Calls Try.prog 15 #[.slice a n k, .slice (some ⟨w.heap.size, 0, none⟩) 8 8] (w.alloc (.cells #[.int .u8 87, .int .u8 69, .int .u8 73, .int .u8 82, .int .u8 67, .int .u8 65, .int .u8 80, .int .u8 49] 5 (8, 9))) fun e w' => e = .returned (.bool (decide (bs.take mg.length = mg))) ∧ Below w.heap.size w w') := by
    have hb : Below w.heap.size w (w.alloc (.cells #[.int .u8 87, .int .u8 69, .int .u8 73, .int .u8 82, .int .u8 67, .int .u8 65, .int .u8 80, .int .u8 49] 5 (8, 9))) := (Below.refl _ _).alloc (Nat.le_refl _) _
    refine (prefix_any a (some ⟨w.heap.size, 0, none⟩) n 8 k 8 bs mg _ HS.out.2.1 rfl HS.out.2.2.2 (HS.out.1.old hb) (seg_mark w (toI mg) 5 (8, 9)) HS.out.2.2.1 mg256).mono ?_
    rintro e w1_ ⟨rfl, rfl⟩
    exact ⟨rfl, hb⟩
  have kc := Lib.run_convert_bytes_const (P := Try.prog) w 22 5 #[.int .u8 87, .int .u8 69, .int .u8 73, .int .u8 82, .int .u8 67, .int .u8 65, .int .u8 80, .int .u8 49] 8 8 Try.underlying22 Try.underlying5
  go_enter Try.func6, Try.ntmps6
  go_wp2_with fail
  refine Calls.mono QP.out ?_
  rintro e w1_ ⟨rfl, hw1⟩
  have HB0 : Hid (Below w.heap.size w w1_) := hw1
  clear hw1 QP kc
  by_cases hp : bs.take mg.length = mg
  case neg =>
    have g1 : decide (bs.take mg.length = mg) = false := decide_eq_false hp
    have HF : Hid (rdA bs = ([], 204, 0)) := if_neg hp
    clear hp
    go_wp2_with fail
    go_ret3
    rw [HF.out]
    exact ⟨HB0.out, _, [], Caps.nil _ _, rfl, rfl⟩
  have g1 : decide (bs.take mg.length = mg) = true := decide_eq_true hp
  have HP : Hid (rdA bs = rdF bs 8 ∧ 8 ≤ n) := ⟨if_pos hp, by have h1 := congrArg List.length hp; rw [List.length_take, HS.out.2.1] at h1; have h2 : mg.length = 8 := rfl; omega⟩
  clear hp
  go_wp2_with fail
  go_loopw [5, 6] (fun lv ix wr => ∃ (i : Nat) (L : List CE), ix = .int .i64 (i : Nat) ∧ i ≤ n ∧ Hid (Caps wr w.heap.size lv L ∧ Below w.heap.size w wr ∧ app (L.map cvt) (rdF bs i) = rdF bs 8 ∧ L.length * 8 ≤ i)) (fun _ ix _ => n - (intOf ix).toNat)
  case atStart => exact ⟨8, [], rfl, HP.out.2, Caps.nil _ _, HB0.out, app_nil _ (rdF_nil bs 8), by simp⟩
  case round =>
    obtain ⟨i, L, rfl, hi, HI⟩ := hrel
    clear g1
    by_cases hin : i < n
    · have p1 : decide ((i : Int) < (n : Int)) = true := decide_eq_true (by omega)
      obtain ⟨b, off, rfl, hc⟩ := seg_at HS.out.1 i (by rw [HS.out.2.1]; exact hin)
      clear hc
      have i0 : (0 : Int) ≤ (i : Int) := by omega
      have i1 : (i : Int) ≤ (n : Int) := by omega
      have i2 : ((i : Int)).toNat = i := by omega
      have i3 : ¬ k = i := by omega
      have HIN : Hid (i < n ∧ i < bs.length) := ⟨hin, by rw [HS.out.2.1]; exact hin⟩
      obtain ⟨l, hl⟩ : ∃ l, l = bs.drop i := ⟨_, rfl⟩
      have HL : Hid (l = bs.drop i ∧ l.length = n - i ∧ ∀ x ∈ l, x < 256) := ⟨hl, by rw [hl, List.length_drop, HS.out.2.1], fun x hx => HS.out.2.2.1 x (List.mem_of_mem_drop (by rw [← hl]; exact hx))⟩
      have QF : Hid _ := frame_any wr (some ⟨b, off + i, none⟩) (n - i) (k - i) l HL.out.2.1 (by omega) (by
        have h1 := HS.out.1.part i (n - i) (by rw [toI_len, HS.out.2.1]; omega)
        rw [toI_drop, toI_take, List.take_of_length_le (by rw [List.length_drop, HS.out.2.1]; omega), ← hl] at h1
        have h2 := h1.old HI.out.2.1
        rw [Option.map_some, Addr.add_lit] at h2
        exact h2) HL.out.2.2
      clear hl hi
      go_wp2_with fail
      refine Calls.mono QF.out ?_
      rintro e w2_ ⟨b2, hr⟩
      clear QF
      have H2 : Hid (Caps w2_ w.heap.size u5 L ∧ Below w.heap.size w w2_ ∧ Below wr.heap.size wr w2_) := ⟨HI.out.1.below b2, HI.out.2.1.trans (b2.mono HI.out.2.1.size), b2⟩
      clear b2
      rcases hr with ⟨p, hp, rfl⟩ | ⟨hp, ad, cc, ho, rfl⟩
      · have HF : Hid (rdF bs i = ([], 204, ((i + p : Nat) : Int))) := rdF_bad bs i p HIN.out.2 (by rw [← HL.out.1]; exact hp)
        have hpp : p ≤ 5 := by
          unfold badF at hp
          split at hp
          · cases hp; omega
          · split at hp
            · cases hp; omega
            · split at hp
              · cases hp; omega
              · cases hp
        have wp : IntKind.i64.wrap ((i : Int) + (p : Int)) = (i : Int) + (p : Int) := i64_s _ (by omega) (by omega)
        clear hp
        go_upto_region 7 with (first | (refine wpList_nil_cap rfl rfl ?_; intro O Z hO hA bZ) | (refine wpList_store_cap (.tmp 7) (.tmp 24) rfl rfl O cz cz rfl rfl hA rfl ?_; intro w5 h5 k5))
        have H5 : Hid (Below w.heap.size w w5) := by
          have h1 := H2.out.2.1.trans (bZ.mono H2.out.2.1.size)
          exact h1.trans (k5.below (fun q hq => by have h2 := hO.out.1; have h3 := H2.out.2.1.size; omega) h1.size)
        clear h5 k5 hA bZ hO
        go_wp2_with fail
        go_ret3
        have h1 := HI.out.2.2.1
        rw [HF.out] at h1
        have h2 : rdA bs = ([], 204, ((i + p : Nat) : Int)) := by rw [HP.out.1, ← h1]; rfl
        rw [h2]
        exact ⟨H5.out, _, [], Caps.nil _ _, rfl, by simp⟩
      · have HFT := bad_fit hp
        have HST : Hid (∀ cs, app cs (rdF bs i) = app (cs ++ [frF l]) (rdF bs (i + (8 + szF l)))) := fun cs => by
          have h1 := rdF_step cs bs i HIN.out.2 (by rw [← HL.out.1]; exact hp)
          rwa [← HL.out.1] at h1
        obtain ⟨c, hc⟩ : ∃ c : CE, c = ⟨((num (l.take 4) : Nat) : Int), ((l.getD 4 0 : Nat) : Int), l.getD 5 0 == 1, (l.drop 8).take (szF l), ad, cc⟩ := ⟨_, rfl⟩
        have HDL : ((l.drop 8).take (szF l)).length = szF l := by rw [List.length_take, List.length_drop]; omega
        have HCV : Hid (cvt c = frF l ∧ OwnB w2_ wr.heap.size c.v c.d.length c.d) := by
          rw [hc]
          refine ⟨rfl, ?_⟩
          unfold CE.v
          simp only
          rw [HDL]
          exact ho
        rw [← hc]
        obtain ⟨s, hs⟩ : ∃ s, s = 8 + szF l := ⟨_, rfl⟩
        have HSS : Hid (s = 8 + szF l) := hs
        rw [← hs] at HFT
        rw [← hs]
        have hs8 : 8 ≤ s := by rw [hs]; omega
        have hsn : i + s ≤ n := by rw [HL.out.2.1] at HFT; omega
        clear hs hc ho hp HDL HFT
        have q1 : decide ((s : Int) = 0) = false := decide_eq_false (by omega)
        have q2 : decide (s = 0) = false := decide_eq_false (by omega)
        have q3 : ((s : Int) == 0) = false := by rw [beq_eq_false_iff_ne]; omega
        go_upto_region 7 with (first | (refine wpList_nil_cap rfl rfl ?_; intro O Z hO hA bZ) | (refine wpList_store_cap (.tmp 7) (.tmp 24) rfl rfl O cz c rfl rfl hA rfl ?_; intro w5 h5 k5))
        have H5 : Hid (Caps w5 w.heap.size u5 L ∧ Below w.heap.size w w5 ∧ OwnB w5 wr.heap.size c.v c.d.length c.d ∧ CapAt w5 O c) := by
          have h1 := H2.out.2.1.trans (bZ.mono H2.out.2.1.size)
          have hOs := hO.out.1
          refine ⟨(H2.out.1.below bZ).ch k5 (fun g hg e => ?_) (fun x hx g hg e => ?_), h1.trans (k5.below (fun q hq => by have h3 := H2.out.2.1.size; omega) h1.size), k5.owns (Below.owns_ch HCV.out.2 bZ) (fun g hg e => ?_), h5⟩
          · have := (H2.out.1.l.kind g hg).2.1; omega
          · have := H2.out.1.lt x hx g hg; omega
          · have := (HCV.out.2.kind g hg).2.1; omega
        clear h5 k5 hA bZ hO
        go_upto_region 9 with fail
        clear q1 q2 q3
        have HLN : Hid (L.length ≤ 100000000000) := by have h1 := HI.out.2.2.2; show _ ≤ _; omega
        obtain ⟨lva, lvc, hlv⟩ := H5.out.1.l.form
        obtain ⟨m, hm⟩ : ∃ m, m = L.length := ⟨_, rfl⟩
        rw [← hm] at hlv
        subst hlv
        clear hm
        have p2 : IntKind.i64.wrap ((i : Int) + (s : Int)) = (i : Int) + (s : Int) := i64_s _ (by omega) (by omega)
        go_wp2_with (first | (refine wpList_load_cap (.tmp 7) rfl O c rfl H5.out.2.2.2 rfl ?_) | (refine wpList_bs1c (.tmp 33) rfl c rfl rfl ?_; intro B W hB hR bW) | (refine wpList_app1H ceL_len ceL_one (by decide) rfl (.tmp 32) (.tmp 34) 23 37 rfl Try.underlying23 info_ce w.heap.size (.slice lva m lvc) L rfl (H5.out.1.l.below bW) B 1 c rfl (by have := hB.out; omega) hR HLN.out (Nat.le_trans H5.out.2.1.size bW.size) ?_))
        intro vb wb gb kb _
        have HB9 : Hid (Caps wb w.heap.size vb (L ++ [c]) ∧ Below w.heap.size w wb) := by
          have h1 := H5.out.1.below bW
          refine ⟨h1.push (w0 := wr) gb kb (Below.owns_ch H5.out.2.2.1 bW) HI.out.2.1.size (fun e he g hg => HI.out.1.lt e he g hg), ?_⟩
          have h2 := H5.out.2.1.trans (bW.mono H5.out.2.1.size)
          exact h2.trans ((Ch.ofGrown kb).below (fun q hq => (h1.l.kind q hq).1) h2.size)
        clear gb kb hB hR bW
        go_wp2
        go_roundw
        case rel =>
          refine ⟨i + s, L ++ [c], by go_num, by omega, HB9.out.1, HB9.out.2, ?_, ?_⟩
          · rw [List.map_append, List.map_cons, List.map_nil, HCV.out.1, HSS.out, ← HST.out]
            exact HI.out.2.2.1
          · have h1 := HI.out.2.2.2
            rw [List.length_append, List.length_cons, List.length_nil]
            omega
        case measure => simp [intOf]; omega
    · have p1 : decide ((i : Int) < (n : Int)) = false := decide_eq_false (by omega)
      have HF : Hid (app (L.map cvt) ([], 0, 0) = rdF bs 8) := by
        have h1 := HI.out.2.2.1
        rwa [rdF_end bs i (by rw [HS.out.2.1]; exact hin)] at h1
      have p2 : decide (i < n) = false := decide_eq_false hin
      clear hin
      go_wp2_with fail
      go_ret3
      have h2 : rdA bs = (L.map cvt, 0, 0) := by
        rw [HP.out.1, ← HF.out]
        simp [app]
      rw [h2]
      exact ⟨HI.out.2.1, _, L, HI.out.1, rfl, rfl⟩
end Go.Proofs.Ytpdfepnifjolkaa
