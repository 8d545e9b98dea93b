/-
  Options.
-/
import Derived.Test.YtfoeepbndfnifaaDoorL9Opt1
namespace Go.Proofs.YtfoeepbndfnifaaDoor
open Go.RowKit
open I4 (Op4 scan)

/-- an option's cells; its data are a window -/
def opC (a : Option Addr) (o : Op4) : List Value := [.int .i64 (o.k : Nat), .slice (cutA a o.p o.n) o.n o.n]
def opsC (a : Option Addr) (os : List Op4) : List Value := os.flatMap (opC a)
theorem opsC_len (a : Option Addr) (os : List Op4) : (opsC a os).length = os.length * 2 := by
  induction os with
  | nil => rfl
  | cons o os ih => simp only [opsC, List.flatMap_cons, List.length_append] at ih ⊢; rw [ih]; simp [opC]; omega
theorem opsC_snoc (a : Option Addr) (os : List Op4) (o : Op4) : opsC a (os ++ [o]) = opsC a os ++ opC a o := by simp [opsC]
theorem Tryd.infoOpt : (Tryd.prog.info? 68).map (fun i => (i.zero, i.size, i.bytes)) = some (some (.agg #[.int .i64 0, .slice none 0 0]), 2, 32) := by kernel_rfl
def posOf (w : World) (B : Nat) : Nat := match w.cell? ⟨B, 1, none⟩ with | some (.int _ x) => x.toNat | _ => 0
theorem Cur.pos {w : World} {B : Nat} {a : Option Addr} {len p : Nat} (h : Cur w B a len p) : posOf w B = p := by unfold posOf; rw [h.c1]; simp
theorem two_new (w : World) (x y : Value) (t : TypeId) : ∀ j u, ([x, y] : List Value)[j]? = some u → (w.alloc (.cells #[x, y] t)).cell? ((⟨w.heap.size, 0, none⟩ : Addr).add j) = some u := by
  intro j u hj
  rw [Addr.add_lit, Nat.zero_add, World.cell?_alloc_at _ _ _ _ rfl]
  match j, hj with
  | 0, hj => simpa using hj
  | 1, hj => simpa using hj
  | j + 2, hj => simp at hj
/-- the state of the loop -/
structure OpS (w : World) (a : Option Addr) (bs : List Nat) (B : Nat) (v : Value) (p : Nat) (os : List Op4) (wr : World) : Prop where
  hp : p ≤ bs.length
  own : wr.ownsRow w.heap.size 68 2 v os.length (opsC a os)
  cur : Cur wr B a bs.length p
  bel : Below w.heap.size w wr
  sc : scan bs 0 = (scan bs p).map (fun l => os ++ l)
  cnt : os.length ≤ p
  ne : v.ownBlock ≠ some B
theorem OpS.below {w : World} {a : Option Addr} {bs : List Nat} {B : Nat} {v : Value} {p : Nat} {os : List Op4} {wr w' : World} (h : OpS w a bs B v p os wr) (k : Below wr.heap.size wr w') : OpS w a bs B v p os w' :=
  ⟨h.hp, h.own.kept (grown_below k none) (by cases v.ownBlock <;> simp), h.cur.below k, h.bel.trans (k.mono h.bel.size), h.sc, h.cnt, h.ne⟩
theorem OpS.kept {w : World} {a : Option Addr} {bs : List Nat} {B : Nat} {v : Value} {p : Nat} {os : List Op4} {wr w' : World} (h : OpS w a bs B v p os wr) (g : wr.grownBy w' (some B)) : w'.ownsRow w.heap.size 68 2 v os.length (opsC a os) := by
  refine h.own.kept g ?_
  cases hv : v.ownBlock with
  | none => exact .inl rfl
  | some x => exact .inr (fun e => h.ne (by rw [hv, e]))
theorem OpS.grown {w : World} {a : Option Addr} {bs : List Nat} {B : Nat} {v : Value} {p q : Nat} {os : List Op4} {wr w' : World} (h : OpS w a bs B v p os wr) (hB : w.heap.size ≤ B) (g : wr.grownBy w' (some B)) (hc : Cur w' B a bs.length q) (hq : q ≤ bs.length) (hpq : p ≤ q) (hs : scan bs p = scan bs q) : OpS w a bs B v q os w' :=
  ⟨hq, h.kept g, hc, h.bel.grown g h.bel.size (by intro k hk; simp at hk; omega), by rw [h.sc, hs], by have := h.cnt; omega, h.ne⟩
def OpRes (w : World) (a : Option Addr) (bs : List Nat) (v : Value) (er : Bool) (w' : World) : Prop :=
  (bs.length ≤ 40 ∧ ∃ os, scan bs 0 = some os ∧ er = true ∧ w'.ownsRow w.heap.size 68 2 v os.length (opsC a os)) ∨ ((40 < bs.length ∨ scan bs 0 = none) ∧ er = false ∧ v = .slice none 0 0)
set_option maxHeartbeats 3200000 in
set_option maxRecDepth 100000 in
theorem read_any (a : Option Addr) (cap n : Nat) (bs : List Nat) (w : World) (hn : bs.length = n) (hb : Seg .u8 w a (toI bs)) (h256 : ∀ x ∈ bs, x < 256) (h2 : n ≤ cap) (h3 : cap ≤ 9223372036854775807) :
    Calls Tryd.prog 38 #[.slice a n cap] w fun e w' => ∃ v er, e = .returned (.tuple #[v, .bool er]) ∧ Below w.heap.size w w' ∧ OpRes w a bs v er w' := by
  by_cases h40 : 40 < n
  · have HH : Hid (OpRes w a bs (.slice none 0 0) false w) := .inr ⟨.inl (by omega), rfl, rfl⟩
    have c40 : (40 : Int) < (n : Int) := by omega
    clear h40 hn
    go_enter Tryd.func38, Tryd.ntmps38
    go_wp2
    go_ret2
    exact ⟨_, _, rfl, Below.refl _ _, HH.out⟩
  · obtain ⟨i0, hi, hz0, hz1, hz2⟩ := info_parts Tryd.infoOpt
    have c40 : ¬ (40 : Int) < (n : Int) := by omega
    have H40 : Hid (bs.length ≤ 40) := by show _ ≤ _; omega
    have HN : Hid (bs.length = n) := hn
    have hcut : cutA a 0 n = a := by have := cutA_zero hb; rw [toI_len, hn] at this; exact this
    have QA : Hid _ := at_any a n cap w h2 h3
    rw [hcut] at QA
    have HSEG : Hid (∀ W, Below w.heap.size w W → Seg .u8 W a (toI bs)) := fun W hW => hb.old hW
    have H256 : Hid _ := h256
    clear h40 hn hcut hb h256 h2 h3
    go_enter Tryd.func38, Tryd.ntmps38
    go_wp2_with fail
    refine Calls.mono QA.out ?_
    rintro e w1 ⟨rfl, hw1⟩
    have hB1 : Below w.heap.size w w1 := by rw [hw1]; exact (Below.refl _ _).alloc (Nat.le_refl _) _
    have hC1 : Cur w1 w.heap.size a n 0 := by rw [hw1]; exact cur_new _ _ _ _
    obtain ⟨B, hB⟩ : ∃ B, B = w.heap.size := ⟨_, rfl⟩
    rw [← hB] at hC1 ⊢
    have HB : Hid (w.heap.size ≤ B) := by rw [hB]; exact Nat.le_refl _
    have HS0 : Hid (OpS w a bs B (.slice none 0 0) 0 [] w1) := ⟨Nat.zero_le _, World.ownsRow_nil _ _ _ _, by rw [HN.out]; exact hC1, hB1, by cases scan bs 0 <;> simp, Nat.le_refl _, by simp [Value.ownBlock]⟩
    clear QA hw1 hB1 hC1 hB
    go_wp2
    go_loopw [4] (fun l wr => ∃ v p os, v = l ∧ Hid (OpS w a bs B v p os wr)) (fun _ wr => n - posOf wr B)
    case atStart => exact ⟨_, 0, [], rfl, HS0⟩
    case round =>
      obtain ⟨v, p, os, rfl, HS⟩ := hrel
      have hp := HS.out.hp
      rw [HN.out] at hp
      have HPOS : Hid (posOf wr B = p) := HS.out.cur.pos
      have QL : Hid _ := curLeft_any B a bs.length p wr HS.out.cur (by have := H40.out; omega) HS.out.hp
      rw [HN.out] at QL
      go_wp2_with fail
      refine Calls.mono QL.out ?_
      rintro e w2 ⟨rfl, hb2⟩
      have HS2 : Hid (OpS w a bs B v p os w2) := HS.out.below hb2
      clear QL HS hb2
      by_cases hlt : p < n
      · have l1 : (0 : Int) < (n : Int) - (p : Int) := by omega
        have QB : Hid _ := curByte_ok B a p bs w2 HS2.out.cur (HSEG.out _ HS2.out.bel) H256.out (by have := H40.out; omega) (by rw [HN.out]; exact hlt)
        obtain ⟨x, hx⟩ : ∃ x, x = bs.getD p 0 := ⟨_, rfl⟩
        rw [← hx, HN.out] at QB
        have hx2 := I4.getD_lt bs H256.out p
        rw [← hx] at hx2
        have HX : Hid (x = bs.getD p 0) := hx
        clear hx
        go_wp2_with fail
        refine Calls.mono QB.out ?_
        rintro e w3 ⟨rfl, hc3, hg3⟩
        clear QB
        rw [← HN.out] at hc3
        have hseg3 : Seg .u8 w3 a (toI bs) := HSEG.out _ (HS2.out.bel.grown hg3 HS2.out.bel.size (by intro k hk; simp at hk; have := HB.out; omega))
        by_cases e0 : x = 0
        · have b0 : ((x : Int) == 0) = true := by rw [e0]; rfl
          have hsc : scan bs 0 = some os := by
            rw [HS2.out.sc, scan, dif_pos (by rw [HN.out]; exact hlt), if_pos (by rw [← HX.out]; exact e0)]; simp
          have ho3 := HS2.out.kept hg3
          have hb3 := HS2.out.bel.grown hg3 HS2.out.bel.size (by intro k hk; simp at hk; have := HB.out; omega)
          have HF : Hid (Below w.heap.size w w3 ∧ OpRes w a bs v true w3) := ⟨hb3, .inl ⟨H40.out, os, hsc, rfl, ho3⟩⟩
          clear e0 hsc ho3 hb3 hg3 hc3 hseg3 hx2
          go_wp2
          go_ret2
          exact ⟨_, _, rfl, HF.out.1, HF.out.2⟩
        · have b0 : ((x : Int) == 0) = false := by rw [beq_eq_false_iff_ne]; omega
          by_cases e1 : x = 1
          · have b1 : ((x : Int) == 1) = true := by rw [e1]; rfl
            have HS3 : Hid (OpS w a bs B v (p + 1) os w3) := HS2.out.grown HB.out hg3 hc3 (by rw [HN.out]; omega) (by omega) (by
              conv => lhs; rw [scan]
              rw [dif_pos (by rw [HN.out]; exact hlt), if_neg (by rw [← HX.out]; exact e0), if_pos (by rw [← HX.out]; exact e1)])
            clear e0 e1 hg3 hc3 hseg3 hx2
            go_wp2
            go_roundw
            case rel => exact ⟨v, p + 1, os, rfl, HS3⟩
            case measure =>
              have h1 := HS3.out.cur.pos
              have h2 := HPOS.out
              omega
          · have b1 : ((x : Int) == 1) = false := by rw [beq_eq_false_iff_ne]; omega
            by_cases hok : p + 1 < n ∧ 2 ≤ bs.getD (p + 1) 0 ∧ p + bs.getD (p + 1) 0 ≤ n
            · obtain ⟨ok1, ok2, ok3⟩ := hok
              obtain ⟨m, hm⟩ : ∃ m, bs.getD (p + 1) 0 = m + 2 := ⟨bs.getD (p + 1) 0 - 2, by omega⟩
              have QO : Hid _ := takeData_ok B a (p + 1) m bs w3 hc3 hseg3 H256.out (by have := H40.out; omega) (by rw [HN.out]; exact ok1) hm (by rw [HN.out]; omega)
              go_wp2_with fail
              refine Calls.mono QO.out ?_
              rintro e w4 ⟨rfl, hc4, hg4⟩
              have hg34 := gtrans hg3 hg4
              have hb4 := HS2.out.bel.grown hg34 HS2.out.bel.size (by intro k hk; simp at hk; have := HB.out; omega)
              have ho4 := HS2.out.kept hg34
              have hw4 : w.heap.size ≤ w4.heap.size := hb4.size
              have hcnt := HS2.out.cnt
              have hcl : (opsC a os).length = os.length * 2 := opsC_len a os
              obtain ⟨K, hK⟩ : ∃ K, K = os.length := ⟨_, rfl⟩
              obtain ⟨xs, hxs⟩ : ∃ xs, xs = opsC a os := ⟨_, rfl⟩
              obtain ⟨y, hy⟩ : ∃ y, y = cutA a (p + 1 + 1) m := ⟨_, rfl⟩
              rw [← hK] at ho4 hcnt
              rw [← hxs] at ho4
              rw [← hy]
              have HK : Hid (K = os.length) := hK
              have HXS : Hid (xs = opsC a os) := hxs
              have HY : Hid (y = cutA a (p + 1 + 1) m) := hy
              have HC4 : Hid (Cur w4 B a bs.length (p + 1 + 1 + m)) := hc4
              have HB4 : Hid _ := hb4
              have HM : Hid _ := hm
              have x64 : IntKind.i64.wrap (x : Int) = (x : Int) := by rw [IntKind.wrap_i64]; omega
              have HOK : Hid (p + 1 < n ∧ 2 ≤ bs.getD (p + 1) 0 ∧ p + bs.getD (p + 1) 0 ≤ n) := ⟨ok1, ok2, ok3⟩
              have HE : Hid (x ≠ 0 ∧ x ≠ 1) := ⟨e0, e1⟩
              have hne4 : v.ownBlock ≠ some B := HS2.out.ne
              have HNE : Hid (v.ownBlock ≠ some B) := hne4
              clear QO hcl hK hxs hy hc4 hb4 hm ok1 ok2 ok3 e0 e1 hg3 hg4 hg34 hc3 hseg3 hne4
              go_wp2_with (first | (at_builtin; refine wpList_append_own_at _ rfl (.tmp 34) (.tmp 39) 43 rfl w.heap.size 68 i0 _ 2 32 Tryd.underlying43 hi hz0 hz1 hz2 rfl (by decide) _ _ _ rfl (ho4.alloc _) ⟨w4.heap.size, 0, none⟩ 1 1 [.int .i64 x, .slice y m m] rfl rfl ?c1 ?c2 ?c3 ?c4 ?c5 ?_))
              case c1 => exact two_new _ _ _ _
              case c2 => intro u hu; simp at hu; rcases hu with rfl | rfl <;> rfl
              case c3 => unfold maxLen; omega
              case c4 => omega
              case c5 => simp; omega
              intro v5 w5 ho5 hg5 _ hblk
              have HS5 : Hid (OpS w a bs B v5 (p + 1 + 1 + m) (os ++ [⟨x, p + 1 + 1, m⟩]) w5) := by
                have hbA : Below w.heap.size w (w4.alloc (.cells #[.int .i64 x, .slice y m m] 68)) := HB4.out.alloc HB4.out.size _
                have hcA : Cur (w4.alloc (.cells #[.int .i64 x, .slice y m m] 68)) B a bs.length (p + 1 + 1 + m) := HC4.out.below ((Below.refl _ _).alloc (Nat.le_refl _) _)
                refine ⟨by rw [HN.out]; have := HOK.out; have := HM.out; omega, ?_, hcA.grown hg5 (fun e => HNE.out e.symm), ?_, ?_, ?_, ?_⟩
                · have e1 : opsC a (os ++ [⟨x, p + 1 + 1, m⟩]) = xs ++ [.int .i64 x, .slice y m m] := by rw [opsC_snoc, HXS.out, HY.out]; rfl
                  rw [e1, List.length_append, ← HK.out]
                  exact ho5
                · exact hbA.grown hg5 hbA.size (fun k hk => (ho4.lt k hk).1)
                · have := HS2.out.sc
                  rw [this]
                  conv => lhs; rw [scan]
                  rw [dif_pos (by rw [HN.out]; have := HOK.out; omega), if_neg (by rw [← HX.out]; exact HE.out.1), if_neg (by rw [← HX.out]; exact HE.out.2), dif_pos (by rw [HN.out]; exact HOK.out), HM.out, ← HX.out, Option.map_map]
                  rw [show p + (m + 2) = p + 1 + 1 + m by omega]
                  congr 1
                  funext l
                  simp
                · rw [List.length_append]; simp; rw [← HK.out]; omega
                · rcases hblk with h | h
                  · rw [h]; exact HNE.out
                  · rw [h]
                    have := HC4.out.lt
                    simp
                    omega
              clear ho5 hg5 hblk ho4
              go_wp2
              go_roundw
              case rel => exact ⟨v5, _, _, rfl, HS5⟩
              case measure =>
                have h1 := HS5.out.cur.pos
                have h2 := HPOS.out
                omega
            · have QO : Hid _ := takeData_no B a (p + 1) bs w3 hc3 hseg3 H256.out (by have := H40.out; omega) (by rw [HN.out]; omega) (by rw [HN.out]; omega)
              have hsc : scan bs 0 = none := by
                rw [HS2.out.sc, scan, dif_pos (by rw [HN.out]; exact hlt), if_neg (by rw [← HX.out]; exact e0), if_neg (by rw [← HX.out]; exact e1), dif_neg (by rw [HN.out]; exact hok)]; rfl
              have hb3 := HS2.out.bel.grown hg3 HS2.out.bel.size (by intro k hk; simp at hk; have := HB.out; omega)
              go_wp2_with fail
              refine Calls.mono QO.out ?_
              rintro e w4 ⟨rfl, hg4⟩
              have HF : Hid (Below w.heap.size w w4 ∧ OpRes w a bs (.slice none 0 0) false w4) := ⟨hb3.grown hg4 hb3.size (by intro k hk; simp at hk; have := HB.out; omega), .inr ⟨.inr hsc, rfl, rfl⟩⟩
              clear QO e0 e1 hok hsc hb3 hg3 hg4 hc3 hseg3 hx2
              go_wp2
              go_ret2
              exact ⟨_, _, rfl, HF.out.1, HF.out.2⟩
      · have l1 : ¬ (0 : Int) < (n : Int) - (p : Int) := by omega
        have hpn : p = n := by omega
        have hsc : scan bs 0 = some os := by
          rw [HS2.out.sc, scan, dif_neg (by rw [HN.out]; omega)]; simp
        have HF : Hid (Below w.heap.size w w2 ∧ OpRes w a bs v true w2) := ⟨HS2.out.bel, .inl ⟨H40.out, os, hsc, rfl, HS2.out.own⟩⟩
        clear hlt hpn hsc HS2
        go_wp2
        go_ret2
        exact ⟨_, _, rfl, HF.out.1, HF.out.2⟩
end Go.Proofs.YtfoeepbndfnifaaDoor
