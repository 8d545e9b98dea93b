/-
  For L4Own: what is written, in one form for taken and refused; the rows that get marks; rows as lists of bytes.
-/
import Derived.Test.YtldallgafpmcjaaDoorL9Mk
import Derived.Test.YtldallgafpmcjaaDoorL9Uni
import Derived.Test.YtldallgafpmcjaaDoorL9ClP
namespace Go.Proofs.YtldallgafpmcjaaDoor
open Go.RowKit
open L4 (U9 T9)
theorem own_dn {w w' : World} (hb : Below w.heap.size w w') {B : Nat} {t : TypeId} {sz : Nat} {v : Value} {n : Nat} {xs : List Value} (h : w.ownsRow B t sz v n xs) : w'.ownsRow B t sz v n xs :=
  (Ch.ofBelow (S := fun _ => False) hb).owns h (fun _ _ q => q.elim)
def wU9 (V U : Int) (x y : Nat → Nat) (u : U9) (n : Nat) : List Nat := if L4.uPutE (psOk V U x y) V u = 0 then L4.uSer u (psL V U x y 17 ((8 + n : Nat) : Int)) else []
def wT9 (V U : Int) (x y : Nat → Nat) (t : T9) (n : Nat) : List Nat := if L4.tPutE (psOk V U x y) t = 0 then L4.tSer t (psL V U x y 6 ((20 + (I4.putO t.os).length + n : Nat) : Int)) else []
def wO9 (os : List OpV) : List Nat := if L4.tPutOk (vals os) then I4.putO (vals os) else []
abbrev Wrt (w : World) (l : List Nat) (v : Value) (w' : World) : Prop := ∃ va, v = .slice va l.length l.length ∧ w'.ownsRow w.heap.size 5 1 (.slice va l.length l.length) l.length ((toI l).map (Value.int .u8))
theorem uE_ok {V U : Int} {x y : Nat → Nat} {u : U9} (h : L4.uPutE (psOk V U x y) V u = 0) : L4.uChk V u = 0 := by
  unfold L4.uPutE at h
  cases hp : psOk V U x y with
  | true => rw [hp, if_pos rfl] at h; exact h
  | false => rw [hp] at h; cases h
theorem tE_ok {V U : Int} {x y : Nat → Nat} {t : T9} (h : L4.tPutE (psOk V U x y) t = 0) : L4.tChk t = 0 := by
  unfold L4.tPutE at h
  cases hp : psOk V U x y with
  | true => rw [hp, if_pos rfl] at h; exact h
  | false => rw [hp] at h; cases h
theorem wU9_ok (V U : Int) (x y : Nat → Nat) {u : U9} {w : World} {da : Option Addr} {n c : Nat} (k : DOk w u.d da n c) : (∀ z ∈ wU9 V U x y u n, z < 256) ∧ (wU9 V U x y u n).length ≤ 65535 := by
  unfold wU9
  split
  · rename_i h
    have h1 := uE_ok h
    exact ⟨L4.uSer_256 u _ h1 k.d256, by rw [L4.uSer_len]; exact (L4.uChk_zero h1).2.2.2.2⟩
  · exact ⟨by simp, by simp⟩
theorem wT9_ok (V U : Int) (x y : Nat → Nat) {t : T9} {w : World} {la : Option Addr} {ln : Nat} {os : List OpV} {da : Option Addr} {n c : Nat} (k : TOk w t la ln os da n c) : (∀ z ∈ wT9 V U x y t n, z < 256) ∧ (wT9 V U x y t n).length ≤ 65535 := by
  unfold wT9
  split
  · rename_i h
    have h1 := tE_ok h
    exact ⟨tSer_256 k h1 _, by rw [L4.tSer_len]; exact (L4.tChk_zero h1).2.2⟩
  · exact ⟨by simp, by simp⟩
theorem wO9_ok {w : World} {la : Option Addr} {os : List OpV} (h : OptsAt w la os) : (∀ z ∈ wO9 os, z < 256) ∧ (wO9 os).length ≤ 65535 := by
  unfold wO9
  split
  · exact ⟨put_256 (vals os) (opts_256 h), by have := (I4.put_len (vals os)).1; omega⟩
  · exact ⟨by simp, by simp⟩
theorem putU_v (V U : Int) (x y : Nat → Nat) (u : U9) (da : Option Addr) (n c : Nat) (w : World) (hw : UW w) (k : DOk w u.d da n c) (hx : ∀ i, i < 16 → x i < 256) (hy : ∀ i, i < 16 → y i < 256) :
    Calls Tryd.prog 7 #[.agg (ipCells V x), .agg (ipCells U y), .agg (uC u da n c)] w fun e w' => ∃ v er, e = .returned (.tuple #[v, .int .i64 er]) ∧ Below w.heap.size w w' ∧ Wrt w (wU9 V U x y u n) v w' := by
  refine (putU_any V U x y u da n c w hw k hx hy).mono ?_
  rintro e w' ⟨v, er, rfl, her, hb, hr⟩
  refine ⟨v, _, rfl, hb, ?_⟩
  rcases hr with ⟨h0, g, rfl, ho⟩ | ⟨h0, rfl⟩
  · have e1 : wU9 V U x y u n = L4.uSer u (psL V U x y 17 ((8 + n : Nat) : Int)) := by unfold wU9; rw [if_pos (by rw [← her]; exact h0)]
    have e2 : (wU9 V U x y u n).length = 8 + n := by rw [e1, L4.uSer_len, k.dl]
    exact ⟨some ⟨g, 0, none⟩, by rw [e2], by rw [e2, e1]; exact ho⟩
  · have e1 : wU9 V U x y u n = [] := by unfold wU9; rw [if_neg (by rw [← her]; exact h0)]
    rw [Wrt, e1]
    exact ⟨none, rfl, World.ownsRow_nil _ _ _ _⟩
theorem putT_v (V U : Int) (x y : Nat → Nat) (t : T9) (la : Option Addr) (ln lc : Nat) (os : List OpV) (da : Option Addr) (n c : Nat) (w : World) (hw : TW w) (hlw : LW w) (k : TOk w t la ln os da n c) (hx : ∀ i, i < 16 → x i < 256) (hy : ∀ i, i < 16 → y i < 256) :
    Calls Tryd.prog 8 #[.agg (ipCells V x), .agg (ipCells U y), .agg (tC t la ln lc da n c)] w fun e w' => ∃ v er, e = .returned (.tuple #[v, .int .i64 er]) ∧ Below w.heap.size w w' ∧ Wrt w (wT9 V U x y t n) v w' := by
  refine (putT_any V U x y t la ln lc os da n c w hw hlw k hx hy).mono ?_
  rintro e w' ⟨v, er, rfl, her, hb, hr⟩
  refine ⟨v, _, rfl, hb, ?_⟩
  rcases hr with ⟨h0, g, rfl, ho⟩ | ⟨h0, rfl⟩
  · have e1 : wT9 V U x y t n = L4.tSer t (psL V U x y 6 ((20 + (I4.putO t.os).length + n : Nat) : Int)) := by unfold wT9; rw [if_pos (by rw [← her]; exact h0)]
    have e2 : (wT9 V U x y t n).length = 20 + (I4.putO t.os).length + n := by rw [e1, L4.tSer_len, k.d.dl]
    exact ⟨some ⟨g, 0, none⟩, by rw [e2], by rw [e2, e1]; exact ho⟩
  · have e1 : wT9 V U x y t n = [] := by unfold wT9; rw [if_neg (by rw [← her]; exact h0)]
    rw [Wrt, e1]
    exact ⟨none, rfl, World.ownsRow_nil _ _ _ _⟩
theorem putO_v (la : Option Addr) (n cap : Nat) (os : List OpV) (w : World) (hd : LW w) (hn : os.length = n) (ho : OptsAt w la os) (hnn : n ≤ 1048576) :
    Calls Tryd.prog 9 #[.slice la n cap] w fun e w' => ∃ v er, e = .returned (.tuple #[v, .int .i64 er]) ∧ Below w.heap.size w w' ∧ Wrt w (wO9 os) v w' := by
  refine (tput_any la n cap os w hd hn ho (by omega)).mono ?_
  rintro e w' ⟨v, rfl, hb, hr⟩
  refine ⟨v, _, rfl, hb, ?_⟩
  rcases hr with ⟨h0, g, rfl, ho⟩ | ⟨h0, rfl⟩
  · have e1 : wO9 os = I4.putO (vals os) := by unfold wO9; rw [if_pos h0]
    rw [Wrt, e1]
    exact ⟨some ⟨g, 0, none⟩, rfl, ho⟩
  · have e1 : wO9 os = [] := by unfold wO9; rw [h0]; rfl
    rw [Wrt, e1]
    exact ⟨none, rfl, World.ownsRow_nil _ _ _ _⟩
theorem own_dok {w : World} {B n c : Nat} {a : Option Addr} {l : List Nat} (h : w.ownsRow B 5 1 (.slice a n c) n ((toI l).map (Value.int .u8))) (h256 : ∀ z ∈ l, z < 256) (hn : n ≤ 1099511627776) : DOk w l a n c := by
  obtain ⟨h1, h2, h3⟩ := owns_seg_at h
  exact ⟨OwnB.len h, h1, h256, h2, h3, hn⟩
theorem boxed_ch {S : Nat → Prop} {w w' : World} {B : Nat} {V : Int} {x : Nat → Nat} (h : Boxed w B V x) (c : Ch S w w') (hS : ¬ S B) : Boxed w' B V x :=
  ⟨c.cell h.ver hS, fun j hj => c.cell (h.byte j hj) hS⟩
theorem ClS.all' {w wr : World} {os ps : List OpV} {syn : Bool} {m G k : Nat} (h : ClS w os syn m G k ps wr) (hk : os.length = k) : vals ps = (vals os).map (L4.clO syn m) := by
  rw [h.vs, List.take_of_length_le (by simp [vals, hk])]
theorem ClS.small' {w wr : World} {os ps : List OpV} {syn : Bool} {m G k : Nat} (h : ClS w os syn m G k ps wr) (hk : os.length = k) (hs : ∀ o ∈ os, o.d.length ≤ 1048576) : ∀ o ∈ ps, o.d.length ≤ 1048576 := by
  intro p hp
  have e : p.val ∈ vals ps := List.mem_map_of_mem hp
  rw [h.all' hk] at e
  obtain ⟨q, hq, e2⟩ := List.mem_map.1 e
  obtain ⟨o, ho, rfl⟩ := List.mem_map.1 hq
  have := (L4.clO_kind syn m o.val).2
  have h3 := hs o ho
  have e3 : p.d = (L4.clO syn m o.val).2 := congrArg Prod.snd e2.symm
  rw [e3, this]
  exact h3
namespace F9
/-- the rows that get marks, in their order; their marks -/
def pV (ps : List OpV) (k : Nat) : Value := match ps[k]? with
  | some p => .slice p.a p.d.length p.c
  | none => .slice none 0 0
def rvF (a b c : Value) (ps : List OpV) : Nat → Value
  | 0 => a
  | 1 => b
  | 2 => c
  | k + 3 => pV ps k
def mkF : Nat → Nat
  | 0 => 11
  | 1 => 12
  | 2 => 13
  | k + 3 => 20 + k % 200
theorem pV_at {ps : List OpV} {k : Nat} {p : OpV} (h : ps[k]? = some p) : pV ps k = .slice p.a p.d.length p.c := by unfold pV; rw [h]
theorem blk_of {a : Option Addr} {n c q : Nat} (h : (Value.slice a n c).ownBlock = some q) : ∃ z, a = some z ∧ z.block = q := by
  cases a with
  | none => simp [Value.ownBlock] at h
  | some z => exact ⟨z, rfl, by simpa [Value.ownBlock] using h⟩
theorem rw_of {Z : World} {a b c : Option Addr} {la lb lc ln : Nat} {xa xb xc : List Value} {ps : List OpV} {s5 s6 s7 s8 G s9 : Nat} (h56 : s5 ≤ s6) (h67 : s6 ≤ s7) (h78 : s7 ≤ s8) (h8G : s8 ≤ G) (hG9 : G < s9)
    (ha : Z.ownsRow s5 5 1 (.slice a la la) la xa) (ra : ∀ z, a = some z → z.block < s6) (na : la ≤ 65535)
    (hb : Z.ownsRow s6 5 1 (.slice b lb lb) lb xb) (rb : ∀ z, b = some z → z.block < s7) (nb : lb ≤ 65535)
    (hc : Z.ownsRow s7 5 1 (.slice c lc lc) lc xc) (rc : ∀ z, c = some z → z.block < s8) (nc : lc ≤ 65535)
    (hp : ∀ p ∈ ps, Z.ownsRow s8 5 1 (.slice p.a p.d.length p.c) p.d.length ((toI p.d).map (Value.int .u8))) (rp : ∀ p ∈ ps, ∀ z, p.a = some z → G < z.block ∧ z.block < s9) (np : ∀ p ∈ ps, p.d.length ≤ 1048576) (dis : ps.Pairwise (fun a b => ∀ z y, a.a = some z → b.a = some y → z.block ≠ y.block)) (hl : ps.length = ln) :
    RW Z (rvF (.slice a la la) (.slice b lb lb) (.slice c lc lc) ps) (3 + ln) ∧ ∀ j, j < 3 + ln → ∀ q, (rvF (.slice a la la) (.slice b lb lb) (.slice c lc lc) ps j).ownBlock = some q → (s5 ≤ q ∧ q < s9) ∧ q ≠ G := by
  have key : ∀ j, j < 3 + ln → ∀ q, (rvF (.slice a la la) (.slice b lb lb) (.slice c lc lc) ps j).ownBlock = some q → (j = 0 → s5 ≤ q ∧ q < s6) ∧ (j = 1 → s6 ≤ q ∧ q < s7) ∧ (j = 2 → s7 ≤ q ∧ q < s8) ∧ (3 ≤ j → G < q ∧ q < s9) := by
    intro j hj q hq
    match j, hj, hq with
    | 0, _, hq =>
      obtain ⟨z, hz, e⟩ := blk_of hq
      exact ⟨fun _ => ⟨(ha.lt q hq).1, by rw [← e]; exact ra z hz⟩, by omega, by omega, by omega⟩
    | 1, _, hq =>
      obtain ⟨z, hz, e⟩ := blk_of hq
      exact ⟨by omega, fun _ => ⟨(hb.lt q hq).1, by rw [← e]; exact rb z hz⟩, by omega, by omega⟩
    | 2, _, hq =>
      obtain ⟨z, hz, e⟩ := blk_of hq
      exact ⟨by omega, by omega, fun _ => ⟨(hc.lt q hq).1, by rw [← e]; exact rc z hz⟩, by omega⟩
    | k + 3, hj, hq =>
      obtain ⟨p, hk⟩ : ∃ p, ps[k]? = some p := ⟨_, List.getElem?_eq_getElem (by omega)⟩
      have hq' : (pV ps k).ownBlock = some q := hq
      rw [pV_at hk] at hq'
      obtain ⟨z, hz, e⟩ := blk_of hq'
      exact ⟨by omega, by omega, by omega, fun _ => by rw [← e]; exact rp p (List.mem_of_getElem? hk) z hz⟩
  refine ⟨⟨fun j hj => ?_, fun j k hj hk hjk q h1 h2 => ?_⟩, fun j hj q hq => ?_⟩
  · match j, hj with
    | 0, _ => exact ⟨la, la, a, xa, rfl, by omega, owns_le ha (Nat.zero_le _)⟩
    | 1, _ => exact ⟨lb, lb, b, xb, rfl, by omega, owns_le hb (Nat.zero_le _)⟩
    | 2, _ => exact ⟨lc, lc, c, xc, rfl, by omega, owns_le hc (Nat.zero_le _)⟩
    | k + 3, hj =>
      obtain ⟨p, hk⟩ : ∃ p, ps[k]? = some p := ⟨_, List.getElem?_eq_getElem (by omega)⟩
      have hm := List.mem_of_getElem? hk
      exact ⟨p.d.length, p.c, p.a, _, pV_at hk, np p hm, owns_le (hp p hm) (Nat.zero_le _)⟩
  · have k1 := key j hj q h1
    have k2 := key k hk q h2
    by_cases c1 : 3 ≤ j ∧ 3 ≤ k
    · obtain ⟨j', rfl⟩ : ∃ j', j = j' + 3 := ⟨j - 3, by omega⟩
      obtain ⟨k', rfl⟩ : ∃ k', k = k' + 3 := ⟨k - 3, by omega⟩
      obtain ⟨p, hp1⟩ : ∃ p, ps[j']? = some p := ⟨_, List.getElem?_eq_getElem (by omega)⟩
      obtain ⟨p', hp2⟩ : ∃ p, ps[k']? = some p := ⟨_, List.getElem?_eq_getElem (by omega)⟩
      have g1 : (pV ps j').ownBlock = some q := h1
      have g2 : (pV ps k').ownBlock = some q := h2
      rw [pV_at hp1] at g1
      rw [pV_at hp2] at g2
      obtain ⟨z, hz, e⟩ := blk_of g1
      obtain ⟨y, hy, e'⟩ := blk_of g2
      rw [List.pairwise_iff_getElem] at dis
      obtain ⟨l1, e1⟩ := List.getElem?_eq_some_iff.1 hp1
      obtain ⟨l2, e2⟩ := List.getElem?_eq_some_iff.1 hp2
      rcases Nat.lt_or_ge j' k' with hlt | hge
      · exact dis j' k' l1 l2 hlt z y (by rw [e1]; exact hz) (by rw [e2]; exact hy) (by rw [e, e'])
      · exact dis k' j' l2 l1 (by omega) y z (by rw [e2]; exact hy) (by rw [e1]; exact hz) (by rw [e, e'])
    · omega
  · have k1 := key j hj q hq
    by_cases c0 : j = 0
    · have := k1.1 c0; omega
    · by_cases c1 : j = 1
      · have := k1.2.1 c1; omega
      · by_cases c2 : j = 2
        · have := k1.2.2.1 c2; omega
        · have := k1.2.2.2 (by omega); omega
theorem list_at {w : World} {B i vc : Nat} {va : Option Addr} {X : Nat → Nat} (hv : w.ownsRow B 41 1 (.slice va i vc) i ((List.range i).map (fun j => Value.slice (some ⟨X (3 + j), 0, none⟩) 5 5))) (j : Nat) (hj : j < i) : ∃ lb, va = some ⟨lb, 0, none⟩ ∧ w.cell? ⟨lb, j, none⟩ = some (.slice (some ⟨X (3 + j), 0, none⟩) 5 5) := by
  rcases hv.2 with ⟨_, h0⟩ | ⟨g, cap, cur, e1, _⟩
  · omega
  · simp only [Value.slice.injEq, true_and] at e1
    obtain ⟨rfl, rfl⟩ := e1
    refine ⟨g, rfl, ?_⟩
    rw [hv.cellAt j (by omega)]
    simp [hj]
end F9
end Go.Proofs.YtldallgafpmcjaaDoor
