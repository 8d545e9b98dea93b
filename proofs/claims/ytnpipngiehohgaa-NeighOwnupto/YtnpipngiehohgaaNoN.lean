/-
  Layer 15 (NeighOwn): what the walk holds between its steps.
-/
import Derived.Test.YtnpipngiehohgaaNoM
import Derived.Test.YtnpipngiehohgaaNgOp
namespace Go.Proofs.Ytnpipngiehohgaa
open Go.RowKit Go.Maps
theorem LSt.back {W1 w x : World} {t M : Nat} {c : CF} {E : List EV} (h : LSt W1 t M c E x) (b : Below w.heap.size w W1) : LSt w t M c E x := ⟨h.ca, h.cf, h.ok, bthen b h.bel, fun q hq => Nat.le_trans b.size (h.out q hq)⟩
namespace No

/-- what lies between the switch and the keep -/
def TW (W : World) (t M p Q : Nat) (c : CF) (BK : Nat) (b : BV) (w : World) (ia : Option Addr) (ni ic : Nat) (ja : Option Addr) (jc : Nat) (aa : Option Addr) (na ac : Nat) (za : Option Addr) (zc : Nat) : Prop := ∃ E F L A, L.length = ni ∧ A.length = na ∧ ni ≤ 65536 ∧ na ≤ 1024 ∧ Duo W t M p Q c E F BK b w ∧ Al E F ∧ LnAt w (.slice ia ni ic) L ∧ LnAt w (.slice ja ni jc) L ∧ AL w 0 (.slice aa na ac) A ∧ AL w 0 (.slice za na zc) A ∧ Fr W (PO t M p Q E F BK b) w (.slice ia ni ic) ∧ Fr W (PO t M p Q E F BK b) w (.slice aa na ac)
def TWR (W : World) (t M p Q : Nat) (c : CF) (BK : Nat) (b : BV) (l m a z : Value) (w : World) : Prop := ∃ ia ni ic ja jc aa na ac za zc, l = .slice ia ni ic ∧ m = .slice ja ni jc ∧ a = .slice aa na ac ∧ z = .slice za na zc ∧ TW W t M p Q c BK b w ia ni ic ja jc aa na ac za zc
section
variable {W : World} {t M p Q : Nat} {c : CF} {E F : List EV} {BK : Nat} {b : BV} {w : World}
theorem twr_no (h : Duo W t M p Q c E F BK b w) (ha : Al E F) : TWR W t M p Q c BK b (.slice none 0 0) (.slice none 0 0) (.slice none 0 0) (.slice none 0 0) w :=
  ⟨none, 0, 0, none, 0, none, 0, 0, none, 0, rfl, rfl, rfl, rfl, E, F, [], [], rfl, rfl, by omega, by omega, h, ha, World.ownsRow_nil _ _ _ _, World.ownsRow_nil _ _ _ _, AL.nil _ _, AL.nil _ _, Fr.nil _ _ _ _ _, Fr.nil _ _ _ _ _⟩
theorem twr_learn {ia ja : Option Addr} {ni ic nj jc : Nat} {L L2 : List Int} (h : Duo W t M p Q c E F BK b w) (ha : Al E F) (e : L = L2) (e1 : L.length = ni) (e2 : L2.length = nj) (e3 : ni ≤ 64) (h1 : LnAt w (.slice ia ni ic) L) (h2 : LnAt w (.slice ja nj jc) L2) (f : Fr W (PO t M p Q E F BK b) w (.slice ia ni ic)) : TWR W t M p Q c BK b (.slice ia ni ic) (.slice ja nj jc) (.slice none 0 0) (.slice none 0 0) w := by
  subst e
  obtain rfl : ni = nj := by omega
  exact ⟨ia, ni, ic, ja, jc, none, 0, 0, none, 0, rfl, rfl, rfl, rfl, E, F, L, [], e1, rfl, by omega, by omega, h, ha, h1, h2, AL.nil _ _, AL.nil _ _, f, Fr.nil _ _ _ _ _⟩
theorem twr_tick {ia ja aa za : Option Addr} {ni ic nj jc na ac nz zc : Nat} {L L2 : List Int} {A A2 : List AK} (h : Duo W t M p Q c E F BK b w) (ha : Al E F) (e : L = L2) (e' : A = A2) (e1 : L.length = ni) (e2 : L2.length = nj) (e3 : ni ≤ 65536) (e4 : A.length = na) (e5 : A2.length = nz) (e6 : na ≤ 1024) (h1 : LnAt w (.slice ia ni ic) L) (h2 : LnAt w (.slice ja nj jc) L2) (h3 : AL w 0 (.slice aa na ac) A) (h4 : AL w 0 (.slice za nz zc) A2) (f : Fr W (PO t M p Q E F BK b) w (.slice ia ni ic)) (f2 : Fr W (PO t M p Q E F BK b) w (.slice aa na ac)) : TWR W t M p Q c BK b (.slice ia ni ic) (.slice ja nj jc) (.slice aa na ac) (.slice za nz zc) w := by
  subst e e'
  obtain rfl : ni = nj := by omega
  obtain rfl : na = nz := by omega
  exact ⟨ia, ni, ic, ja, jc, aa, na, ac, za, zc, rfl, rfl, rfl, rfl, E, F, L, A, e1, e4, e3, e6, h, ha, h1, h2, h3, h4, f, f2⟩
theorem rep_one {e : EV} : Rep [e] [e.n] := ⟨List.Perm.refl _, List.pairwise_singleton _ _⟩
theorem al_one {e f : EV} (h1 : e.n = fN) (h2 : f.n = fN) : Al [e] [f] := by
  unfold Al
  rw [List.map_singleton, List.map_singleton, h1, h2]
theorem all_nb {S T : List EV} (h1 : Al E F) (hS : Srt E S) (hT : Srt F T) : T.map (fun e => e.n.nb) = S.map (fun e => e.n.nb) := by
  have h2 := congrArg (List.map (fun n : EN => n.nb)) (all_same h1 hS hT)
  rw [List.map_map, List.map_map] at h2
  exact h2.symm
/-- the two caches that the statement begins with -/
theorem pn_start {w4 w5 w6 : World} {e1 e2 : EV} {P0 : Nat} (ht : ∀ q, CB t M [] q → q < P0) (hp : ∀ q, CB p Q [] q → P0 ≤ q) (hl : ∀ q, CB p Q [] q → q < w4.heap.size) (a1 : LSt W t M c [e1] w5) (a2 : ∀ q, CB t M [e1] q → CB t M [] q ∨ w4.heap.size ≤ q) (b0 : Ch (CB p Q []) w5 w6) (b2 : ∀ q, CB p Q [e2] q → CB p Q [] q ∨ w5.heap.size ≤ q) (hW : ∀ q, CB p Q [] q → W.heap.size ≤ q) : LSt W t M c [e1] w6 ∧ ∀ q, CB t M [e1] q → ¬ CB p Q [e2] q := by
  have key : ∀ q, CB t M [e1] q → ¬ CB p Q [] q := fun q k1 k2 => by
    have h5 := hl q k2
    have h6 := hp q k2
    rcases a2 q k1 with k | k
    · have := ht q k; omega
    · omega
  refine ⟨a1.ch b0 key hW, fun q k1 k2 => ?_⟩
  rcases b2 q k2 with k | k
  · exact key q k1 k
  · have := a1.ca.tlt q k1; omega
end
end No
end Go.Proofs.Ytnpipngiehohgaa
