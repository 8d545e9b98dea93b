/-
  Where what was read lies; a datagram that stays where other blocks change; Hop of any row of one's own.
-/
import Derived.Test.YtdinhgfkpjaipaaDoorI4HopP
import Derived.Test.YtdinhgfkpjaipaaDoorI4Clone
namespace Go.Proofs.YtdinhgfkpjaipaaDoor
open Go.RowKit
open I4 (H4)

theorem owns_at {w : World} {base : Nat} {e : TypeId} {g : Option Addr} {n c : Nat} {k : IntKind} {zs : List Int} (h : w.ownsRow base e 1 (.slice g n c) n (zs.map (Value.int k))) : Seg k w g zs ∧ n ≤ c ∧ c ≤ 9223372036854775807 := by
  obtain ⟨a, c', e1, hs, _, h1, h2⟩ := owns_seg h
  simp only [Value.slice.injEq, true_and] at e1
  rw [e1.1, e1.2]
  exact ⟨hs, h1, by unfold maxLen at h2; exact h2⟩
theorem owns_below {w w' : World} {base : Nat} {e : TypeId} {s : Nat} {v : Value} {n : Nat} {xs : List Value} (h : w.ownsRow base e s v n xs) (b : Below w.heap.size w w') : w'.ownsRow base e s v n xs := (Ch.ofBelow (S := fun _ => False) b).owns h (fun _ _ => id)
theorem add_blk (x : Addr) (i : Nat) : (x.add i).block = x.block := by
  unfold Addr.add
  split <;> rfl
theorem cutA_blk {a : Option Addr} {i n : Nat} {z : Addr} (h : cutA a i n = some z) : ∃ x, a = some x ∧ z.block = x.block := by
  unfold cutA at h
  split at h
  · exact ⟨z, h, rfl⟩
  · cases a with
    | none => simp at h
    | some x =>
      simp only [Option.map_some, Option.some.injEq] at h
      exact ⟨x, rfl, by rw [← h, add_blk]⟩
theorem optA_blk {a : Option Addr} {z : Addr} (h : optA a = some z) : ∃ x, a = some x ∧ z.block = x.block := by
  unfold optA at h
  cases a with
  | none => simp at h
  | some x =>
    simp only [Option.map_some, Option.some.injEq] at h
    exact ⟨x, rfl, by rw [← h, add_blk]⟩
theorem read_blk {w : World} {B : Nat} {la a : Option Addr} {K lc : Nat} {ops : List I4.Op4} {os : List OpV} (ho : w.ownsRow B 43 2 (.slice la K lc) K (opsC a ops)) (hat : OptsAt w la os) (hl : os.length = K) : ∀ o ∈ os, ∀ z, o.a = some z → ∃ x, a = some x ∧ z.block = x.block := by
  intro o hm z hz
  obtain ⟨i, hi⟩ := List.mem_iff_getElem?.1 hm
  have hiK : i < K := by have := (List.getElem?_eq_some_iff.1 hi).1; omega
  obtain ⟨b, off, hla, _, _, _, c2⟩ := hat.at i o hi
  rcases ho.2 with ⟨_, h0⟩ | ⟨g, cap, cur, e, _⟩
  · omega
  · simp only [Value.slice.injEq, true_and] at e
    obtain ⟨rfl, rfl⟩ := e
    have e1 := Option.some.inj hla
    simp only [Addr.mk.injEq, and_true] at e1
    obtain ⟨rfl, rfl⟩ := e1
    have d2 := ho.cellAt (i * 2 + 1) (by omega)
    rw [Nat.zero_add] at c2
    rw [c2] at d2
    have hlen : i < ops.length := by
      have := (List.getElem?_eq_some_iff.1 d2.symm).1
      rw [opsC_len] at this
      omega
    obtain ⟨p, hp⟩ : ∃ p, ops[i]? = some p := ⟨_, List.getElem?_eq_getElem hlen⟩
    have := (opsC_get a ops i p hp).2
    rw [← d2] at this
    simp only [Option.some.injEq, Value.slice.injEq] at this
    rw [this.1] at hz
    exact cutA_blk hz
theorem own_blk {w : World} {B : Nat} {e : TypeId} {s n m c : Nat} {a : Option Addr} {xs : List Value} (h : w.ownsRow B e s (.slice a n c) m xs) (x : Addr) (hx : a = some x) : B ≤ x.block ∧ x.block < w.heap.size := by
  rcases h.2 with ⟨h0, _⟩ | ⟨g, cap, cur, e1, hb, hg, _⟩
  · simp only [Value.slice.injEq] at h0
    rw [hx] at h0
    simp at h0
  · simp only [Value.slice.injEq] at e1
    rw [hx] at e1
    have := Option.some.inj e1.1
    rw [this]
    exact ⟨hb, (Array.getElem?_eq_some_iff.1 hg).1⟩
theorem H4Ok.ch {S : Nat → Prop} {w w' : World} {h : H4} {la : Option Addr} {ln lc : Nat} {os : List OpV} {da : Option Addr} {n c : Nat} (k : H4Ok w h la ln lc os da n c) (b : Ch S w w') (h1 : ∀ x, la = some x → ¬ S x.block) (h2 : ∀ o ∈ os, ∀ x, o.a = some x → ¬ S x.block) (h3 : ∀ x, da = some x → ¬ S x.block) : H4Ok w' h la ln lc os da n c :=
  ⟨k.sx, k.dx, k.ol, k.opts.ch b h1 h2, k.hos, k.on, k.dl, b.seg k.seg (fun x _ hx => h3 x hx), k.d256, k.cap, k.cm, k.dn⟩
set_option maxHeartbeats 3200000 in
set_option maxRecDepth 100000 in
/-- Hop of what is no datagram -/
theorem hop_bad (a : Option Addr) (cap n : Nat) (bs : List Nat) (w : World) (hn : bs.length = n) (hw : Wid w) (hb : Seg .u8 w a (toI bs)) (h256 : ∀ x ∈ bs, x < 256) (h2 : n ≤ cap) (h3 : cap ≤ 9223372036854775807) (hE : I4.pE bs ≠ 0) :
    Calls Tryd.prog 28 #[.slice a n cap] w fun e w' => e = .returned (.int .i64 (I4.pE bs : Nat)) ∧ Below w.heap.size w w' := by
  have QP : Hid _ := parse_two a cap n bs w hn hw hb h256 h2 h3
  obtain ⟨E, hEE⟩ : ∃ E, E = I4.pE bs := ⟨_, rfl⟩
  rw [← hEE] at QP hE ⊢
  have b1 : ((E : Int) != 0) = true := by rw [bne_iff_ne]; omega
  have HE : Hid (E ≠ 0) := hE
  clear hn hw hb h256 h2 h3 hEE hE
  go_enter Tryd.func28, Tryd.ntmps28
  go_wp2_with fail
  refine Calls.mono QP.out ?_
  rintro e w1 ⟨C, rfl, hb1, hres⟩
  clear QP
  rcases hres with ⟨hne, rfl⟩ | ⟨h0, hrd⟩
  case inr => exact absurd h0 HE.out
  clear hne
  go_wp2_with (first | (refine wpList_alloc_h4 rfl rfl ?_) | (refine wpList_store_h4 (.tmp 3) (.tmp 14) rfl rfl w1.heap.size h4z h4z nilS nilS nilS nilS rfl rfl rfl rfl (h4At_new _ _ _ _) rfl ?_))
  intro w2 hP2 k2
  have HF2 : Hid (Below w.heap.size w w2) := bthen hb1 (stored_below k2)
  clear hP2 k2
  go_wp2
  go_ret
  exact ⟨rfl, HF2.out⟩
theorem hopE_bad {bs : List Nat} (h : I4.pE bs ≠ 0) : hopE bs = I4.pE bs ∧ hopL bs = bs := by
  have e : hopE bs = I4.pE bs := by unfold hopE; rw [if_pos h]
  refine ⟨e, ?_⟩
  unfold hopL
  rw [e, if_neg h]
/-- Hop of a row of one's own, with what lies behind it -/
theorem hopV_any (a : Option Addr) (cap n c N B : Nat) (bs r : List Nat) (w : World) (hn : bs.length = n) (hN : (bs ++ r).length = N) (hw : Wid w) (ho : w.ownsRow B 5 1 (.slice a N c) N ((toI (bs ++ r)).map (Value.int .u8))) (h256 : ∀ x ∈ bs, x < 256) (h2 : n ≤ cap) (h3 : cap ≤ 9223372036854775807) :
    Calls Tryd.prog 28 #[.slice a n cap] w fun e w' => e = .returned (.int .i64 (hopE bs : Nat)) ∧ Ch (fun q => (Value.slice a N c).ownBlock = some q) w w' ∧ w'.ownsRow B 5 1 (.slice a N c) N ((toI (hopL bs ++ r)).map (Value.int .u8)) := by
  rcases ho.2 with ⟨e0, h0⟩ | ⟨g, cap', cur, e0, _⟩
  · have hb0 : bs = [] := List.eq_nil_of_length_eq_zero (by rw [List.length_append] at hN; omega)
    have hE : I4.pE bs ≠ 0 := by rw [hb0]; decide
    obtain ⟨e1, e2⟩ := hopE_bad hE
    rw [e1, e2]
    refine (hop_bad a cap n bs w hn hw (.inl (by rw [hb0]; rfl)) h256 h2 h3 hE).mono ?_
    rintro e w' ⟨he, hb⟩
    exact ⟨he, Ch.ofBelow hb, owns_below ho hb⟩
  · simp only [Value.slice.injEq, true_and] at e0
    obtain ⟨rfl, rfl⟩ := e0
    refine (hopP_any g cap n c N B bs r w hn hN hw ho h256 h2 h3).mono ?_
    rintro e w' ⟨he, hc, ho'⟩
    exact ⟨he, hc.mono (fun q _ hq => by have e' : q = g := hq; rw [e']; rfl), ho'⟩
end Go.Proofs.YtdinhgfkpjaipaaDoor
