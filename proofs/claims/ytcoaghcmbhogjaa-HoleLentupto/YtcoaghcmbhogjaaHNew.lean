/-
  Package hole: New; Put in one form for what is taken and what is not; Bytes.
-/
import Derived.Test.YtcoaghcmbhogjaaHPut
namespace Go.Proofs.Ytcoaghcmbhogjaa
open Go.RowKit Go.Maps
namespace H11

def pS (s : HS) (off : Int) (d : List Nat) (more : Bool) : HS := if rf s off d.length more = 0 then pt s off.toNat d more else s
def pN (s : HS) (off : Int) (d : List Nat) (more : Bool) : Nat := if rf s off d.length more = 0 then fN off.toNat (off.toNat + d.length) s.gp else 0
def pO (s : HS) (off : Int) (d : List Nat) (more : Bool) : Int := if rf s off d.length more = 0 then (d.length : Int) - (fN off.toNat (off.toNat + d.length) s.gp : Nat) else 0
def pM (s : HS) (off : Int) (d : List Nat) (more : Bool) : Bool := decide (rf s off d.length more = 0) && (decide ((off.toNat, d.length, more) ∈ s.tk) && decide (d = ((pt s off.toNat d more).bs.drop off.toNat).take d.length))

theorem put_u (w : World) (H : Nat) (s : HS) (v : HV) (h : HAt w H s v) (hi : Inv s) (off : Int) (d : List Nat) (da : Option Addr) (c : Nat) (more : Bool) (h256 : ∀ x ∈ d, x < 256) (htk : s.tk.length ≤ 1000000) (hcn : d.length ≤ c) (hseg : Seg .u8 w da (toI d)) (hdn : ∀ x, d ≠ [] → da = some x → ¬ HB H v x.block) :
    Calls Try.prog 13 #[.pointer (some ⟨H, 0, none⟩), .int .i64 off, .slice da d.length c, .bool more] w fun r w' => r = .returned (.tuple #[.agg #[.int .i64 (pN s off d more : Nat), .int .i64 (pO s off d more), .bool (pM s off d more)], .int .i64 (rf s off d.length more)]) ∧ Moved w H v w' (pS s off d more) := by
  by_cases hr : rf s off d.length more = 0
  · obtain ⟨o, rfl, hok, _⟩ := rf_ok hr
    have hd : d ≠ [] := by intro e; have := hok.n1; rw [e] at this; simp at this
    have := put_yes w H s v h hi d da c more h256 htk hcn hseg (fun x hx => hdn x hd hx) o hok hr
    unfold pN pO pM pS
    simp only [hr, if_true, decide_true, Bool.true_and, Int.toNat_natCast]
    exact this
  · have := put_no w H s v h hi off d da c more hr
    unfold pN pO pM pS
    simp only [hr, if_false, decide_false, Bool.false_and]
    exact this.mono (fun e w' k => ⟨k.1, v, h.below k.2, fun x hx => .inl hx, Ch.ofBelow k.2⟩)
theorem pS_inv {s : HS} (hi : Inv s) (off : Int) (d : List Nat) (more : Bool) (h256 : ∀ x ∈ d, x < 256) : Inv (pS s off d more) := by
  unfold pS
  split
  · rename_i hr
    obtain ⟨o, rfl, hok, _⟩ := rf_ok hr
    exact (pt_inv hi hok h256).1
  · exact hi
theorem pS_mx (s : HS) (off : Int) (d : List Nat) (more : Bool) : (pS s off d more).mx = s.mx := by unfold pS; split <;> rfl
theorem pS_tk (s : HS) (off : Int) (d : List Nat) (more : Bool) : (pS s off d more).tk.length ≤ s.tk.length + 1 := by
  unfold pS
  split
  · simp [pt]
  · omega

theorem boxOff {w : World} {T : TypeId} {cs : List Value} : ∀ j, (w.alloc (.cells cs.toArray T)).cell? ⟨w.heap.size, j, none⟩ = cs[j]? := by
  intro j
  rw [World.cell?_alloc_at _ _ _ _ rfl]
  simp

set_option maxRecDepth 100000 in
set_option maxHeartbeats 3200000 in
theorem new_no (w : World) (m : Int) (hm : ¬ (1 ≤ m ∧ m ≤ 65535)) :
    Calls Try.prog 12 #[.int .i64 m] w fun r w' => r = .returned (.tuple #[.pointer none, .int .i64 1]) ∧ w = w' := by
  by_cases h1 : m < 1
  · clear hm
    go_enter Try.func12, Try.ntmps12
    go_wp2
    go_ret2
    exact ⟨rfl, rfl⟩
  · have h2 : (65535 : Int) < m := by omega
    clear hm
    go_enter Try.func12, Try.ntmps12
    go_wp2
    go_ret2
    exact ⟨rfl, rfl⟩

set_option maxRecDepth 100000 in
set_option maxHeartbeats 3200000 in
theorem new_yes (w : World) (m : Nat) (h1 : 1 ≤ m) (h2 : m ≤ 65535) :
    Calls Try.prog 12 #[.int .i64 (m : Int)] w fun r w' => ∃ H v, r = .returned (.tuple #[.pointer (some ⟨H, 0, none⟩), .int .i64 0]) ∧ HAt w' H (nw m) v ∧ (∀ x, HB H v x → w.heap.size ≤ x) ∧ Below w.heap.size w w' := by
  have d1 : ¬ (m : Int) < 1 := by omega
  have d2 : ¬ (65535 : Int) < (m : Int) := by omega
  have hmm := @run_makeMap Try.prog
  have HF : Hid (∀ w1 w2 w3 : World, w1 = w.alloc (.cells #[.int .i64 0, .int .i64 (m : Int)] 45) → w2 = w1.alloc (.map #[] 0) → w3 = w2.alloc (.cells #[.int .i64 (m : Int), .int .i64 0, .slice none 0 0, .slice (some ⟨w.heap.size, 0, none⟩) 1 1, .map (some (w.heap.size + 1))] 76) →
      HAt w3 (w.heap.size + 2) (nw m) ⟨.slice none 0 0, .slice (some ⟨w.heap.size, 0, none⟩) 1 1, w.heap.size + 1, .map []⟩ ∧ Below w.heap.size w w3) := by
    intro w1 w2 w3 e1 e2 e3
    have s1 : w1.heap.size = w.heap.size + 1 := by rw [e1]; simp
    have s2 : w2.heap.size = w.heap.size + 2 := by rw [e2]; simp [s1]
    have b1 : Below w.heap.size w w1 := by rw [e1]; exact (Below.refl _ _).alloc (Nat.le_refl _) _
    have b2' : Below w1.heap.size w1 w2 := by rw [e2]; exact (Below.refl _ _).alloc (Nat.le_refl _) _
    have b3' : Below w2.heap.size w2 w3 := by rw [e3]; exact (Below.refl _ _).alloc (Nat.le_refl _) _
    have b2 : Below w.heap.size w w2 := b1.trans (b2'.mono b1.size)
    have b3 : Below w.heap.size w w3 := b2.trans (b3'.mono b2.size)
    have hB : w3.heap[w.heap.size + 2]? = some (.cells #[.int .i64 (m : Int), .int .i64 0, .slice none 0 0, .slice (some ⟨w.heap.size, 0, none⟩) 1 1, .map (some (w.heap.size + 1))] 76 (0, 0)) := by
      rw [e3, ← s2]; exact heap_alloc_new _ _
    have hcell : ∀ j, w3.cell? ⟨w.heap.size + 2, j, none⟩ = (#[.int .i64 (m : Int), .int .i64 0, .slice none 0 0, .slice (some ⟨w.heap.size, 0, none⟩) 1 1, .map (some (w.heap.size + 1))] : Array Value)[j]? := by
      intro j; simp [World.cell?, hB]
    have hm2 : w2.ownsMap Try.prog 78 (unitElem (H := Unit)) (w.heap.size + 1) 0 (.map []) := by
      rw [e2, ← s1]; exact World.ownsMap_made _ _ _ _
    refine ⟨⟨hcell 0, hcell 1, hcell 2, hcell 3, hcell 4, ?_, ?_, ?_, ?_, ?_, ?_, ?_, ?_, ?_, ?_, ?_⟩, b3⟩
    · intro j; simp [World.frozen?, hB]
    · exact World.ownsRow_nil _ _ _ _
    · have k0 : w1.ownsRow 0 45 2 (.slice (some ⟨w.heap.size, 0, none⟩) 1 1) 1 (gC [(0, m)]) := by
        refine ⟨rfl, .inr ⟨w.heap.size, 1, _, rfl, Nat.zero_le _, by rw [e1]; exact heap_alloc_new _ _, Nat.le_refl _, by unfold maxLen; omega, rfl, rfl⟩⟩
      exact (Ch.ofBelow (S := fun _ => False) (b2'.trans (b3'.mono b2'.size))).owns k0 (fun _ _ => id)
    · exact map_ch hm2 (Ch.ofBelow (S := fun _ => False) b3') id
    · intro o n mm l hl
      simp [nw, Maps.has]
    · simp
    · simp [Value.ownBlock]
    · simp [Value.ownBlock]
    · simp [Value.ownBlock]
    · simp [Value.ownBlock]
    · intro x hx; simp [Value.ownBlock] at hx
  clear h1 h2
  go_enter Try.func12, Try.ntmps12
  go_wp2
  go_ret2
  obtain ⟨k1, k2⟩ := HF.out _ _ _ rfl rfl rfl
  have HX : ∀ x, HB (w.heap.size + 2) ⟨.slice none 0 0, .slice (some ⟨w.heap.size, 0, none⟩) 1 1, w.heap.size + 1, .map []⟩ x → w.heap.size ≤ x := by
    rintro x (rfl | rfl | hx | hx)
    · omega
    · simp
    · simp [Value.ownBlock] at hx
    · simp [Value.ownBlock] at hx; omega
  refine ⟨w.heap.size + 2, ?_, ⟨.slice none 0 0, .slice (some ⟨w.heap.size, 0, none⟩) 1 1, w.heap.size + 1, .map []⟩, ?_, HX, ?_⟩
  · simp
  · simpa using k1
  · simpa using k2

end H11
end Go.Proofs.Ytcoaghcmbhogjaa
