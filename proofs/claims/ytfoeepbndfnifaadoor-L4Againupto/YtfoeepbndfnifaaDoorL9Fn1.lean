/-
  l4's small functions: fit, good, within, notZero, the sizes; a datagram and a segment as values.
-/
import Derived.Test.YtfoeepbndfnifaaDoorL9Spec
import Derived.Test.YtfoeepbndfnifaaDoorI8Ps3
import Derived.Test.YtfoeepbndfnifaaDoorL9Put
namespace Go.Proofs.YtfoeepbndfnifaaDoor
open Go.RowKit
open L4 (U9 T9)

theorem in9_any (v m : Int) (w : World) : Calls Tryd.prog 54 #[.int .i64 v, .int .i64 m] w fun e w' => e = .returned (.bool (L4.inB v m)) ∧ w = w' := by
  by_cases h1 : 0 ≤ v
  · go_enter Tryd.func54, Tryd.ntmps54
    go_wp2
    go_ret
    exact ⟨congrArg (fun b => Ending.returned (.bool b)) (by simp [L4.inB, h1]), rfl⟩
  · go_enter Tryd.func54, Tryd.ntmps54
    go_wp2
    go_ret
    exact ⟨congrArg (fun b => Ending.returned (.bool b)) (by simp [L4.inB]; omega), rfl⟩
theorem notZero_any (n : Nat) (w : World) : Calls Tryd.prog 46 #[.int .i64 n] w fun e w' => e = .returned (.int .i64 ((L4.nz n : Nat) : Int)) ∧ w = w' := by
  by_cases h : n = 0
  · subst h
    go_enter Tryd.func46, Tryd.ntmps46
    go_wp2
    go_ret
    exact ⟨rfl, rfl⟩
  · have b : ((n : Int) == 0) = false := by rw [beq_eq_false_iff_ne]; omega
    have HN : Hid (L4.nz n = n) := if_neg h
    clear h
    go_enter Tryd.func46, Tryd.ntmps46
    go_wp2
    go_ret
    exact ⟨by rw [HN.out]; rfl, rfl⟩
/-- a datagram and a segment as values -/
def uC (u : U9) (da : Option Addr) (n c : Nat) : Array Value := #[.int .i64 u.sp, .int .i64 u.dp, .bool u.ns, .slice da n c]
def tC (t : T9) (la : Option Addr) (ln lc : Nat) (da : Option Addr) (n c : Nat) : Array Value := #[.int .i64 t.sp, .int .i64 t.dp, .int .i64 t.sq, .int .i64 t.ak, .int .i64 t.fl, .int .i64 t.wi, .int .i64 t.ur, .slice la ln lc, .slice da n c]
structure DOk (w : World) (d : List Nat) (da : Option Addr) (n c : Nat) : Prop where
  dl : d.length = n
  seg : Seg .u8 w da (toI d)
  d256 : ∀ x ∈ d, x < 256
  cap : n ≤ c
  top : c ≤ 9223372036854775807
  sm : n ≤ 1099511627776
theorem DOk.old {w w' : World} {d : List Nat} {da : Option Addr} {n c : Nat} (h : DOk w d da n c) (hb : Below w.heap.size w w') : DOk w' d da n c := { h with seg := h.seg.old hb }
theorem DOk.part {w : World} {d : List Nat} {da : Option Addr} {n c : Nat} (h : DOk w d da n c) : Part.ok w ⟨da, c, d⟩ := ⟨h.seg, h.d256, by show d.length ≤ c; rw [h.dl]; exact h.cap, h.top⟩
theorem udpSize_any (u : U9) (da : Option Addr) (n c : Nat) (w : World) (hn : n ≤ 1099511627776) :
    Calls Tryd.prog 43 #[.agg (uC u da n c)] w fun e w' => e = .returned (.int .i64 ((8 + n : Nat) : Int)) ∧ Below w.heap.size w w' := by
  have q1 : IntKind.i64.wrap (8 + (n : Int)) = 8 + (n : Int) := by rw [IntKind.wrap_i64]; omega
  unfold uC
  go_enter Tryd.func43, Tryd.ntmps43
  go_wp2
  go_ret
  exact ⟨by simp, (Below.refl _ _).alloc (Nat.le_refl _) _⟩
theorem tcpSize_any (a1 a2 : Option Addr) (m n c1 c2 : Nat) (w : World) (hm : m ≤ 1099511627776) (hn : n ≤ 1099511627776) :
    Calls Tryd.prog 51 #[.slice a1 m c1, .slice a2 n c2] w fun e w' => e = .returned (.int .i64 ((20 + m + n : Nat) : Int)) ∧ w = w' := by
  have q1 : IntKind.i64.wrap (20 + (m : Int)) = 20 + (m : Int) := by rw [IntKind.wrap_i64]; omega
  have q2 : IntKind.i64.wrap (20 + (m : Int) + (n : Int)) = 20 + (m : Int) + (n : Int) := by rw [IntKind.wrap_i64]; omega
  go_enter Tryd.func51, Tryd.ntmps51
  go_wp2
  go_ret
  exact ⟨by simp, rfl⟩
theorem psE_ok {V U : Int} {x y : Nat → Nat} {p n : Int} (h : psOk V U x y = true) (hi : psIn p n = true) : psE V U x y p n = 0 := by unfold psE; rw [h, hi]; rfl
theorem psE_no {V U : Int} {x y : Nat → Nat} {p n : Int} (h : psOk V U x y = false) : psE V U x y p n = 20 := by unfold psE; rw [h]; rfl
theorem psL_even (V U : Int) (x y : Nat → Nat) (p n : Int) : (psL V U x y p n).length % 2 = 0 := by
  unfold psL
  split
  · split <;> simp [ipL]
  · rfl
theorem psL_len (V U : Int) (x y : Nat → Nat) (p n : Int) : (psL V U x y p n).length ≤ 40 := by
  unfold psL
  split
  · split <;> simp [ipL]
  · simp
theorem psL_256 (V U : Int) (x y : Nat → Nat) (p n : Int) (hx : ∀ i, i < 16 → x i < 256) (hy : ∀ i, i < 16 → y i < 256) : ∀ z ∈ psL V U x y p n, z < 256 := by
  unfold psL
  split
  · rename_i h
    simp only [Bool.and_eq_true, psIn, decide_eq_true_eq] at h
    have ip : ∀ (f : Nat → Nat) (k : Nat), k ≤ 16 → (∀ i, i < 16 → f i < 256) → ∀ z ∈ ipL f k, z < 256 := by
      intro f k hk hf z hz
      simp only [ipL, List.mem_map, List.mem_range] at hz
      obtain ⟨i, hi, rfl⟩ := hz
      exact hf i (by omega)
    intro z hz
    split at hz
    · simp only [List.mem_append, List.mem_cons, List.not_mem_nil, or_false] at hz
      rcases hz with (h1 | h1) | h1 | h1 | h1 | h1
      · exact ip x 4 (by omega) hx z h1
      · exact ip y 4 (by omega) hy z h1
      all_goals omega
    · simp only [List.mem_append, List.mem_cons, List.not_mem_nil, or_false] at hz
      rcases hz with (h1 | h1) | h1 | h1 | h1 | h1 | h1 | h1 | h1 | h1
      · exact ip x 16 (by omega) hx z h1
      · exact ip y 16 (by omega) hy z h1
      all_goals omega
  · intro z hz; cases hz
set_option maxHeartbeats 800000 in
theorem fit_any (V U : Int) (x y : Nat → Nat) (w : World) :
    Calls Tryd.prog 30 #[.agg (ipCells V x), .agg (ipCells U y)] w fun e w' => e = .returned (.bool (psOk V U x y)) ∧ Below w.heap.size w w' := by
  have hx1 := boxed_new w V x 24
  have hy1 := boxed_new (w.alloc (.cells (ipCells V x) 24)) U y 24
  have hb1 : Below w.heap.size w ((w.alloc (.cells (ipCells V x) 24)).alloc (.cells (ipCells U y) 24)) := ((Below.refl _ _).alloc (Nat.le_refl _) _).alloc (by simp) _
  have hx2 := hx1.old ((Below.refl _ _).alloc (Nat.le_refl _) (.cells (ipCells U y) 24))
  clear hx1
  rw [World.size_alloc] at hy1
  have HPS : Hid (∀ W, _) := fun W => pseudo_any V U x y 0 0 W
  have HE : Hid (((psE V U x y 0 0 : Int) == 0) = psOk V U x y) := by
    show _ = _
    cases h : psOk V U x y with
    | true => rw [psE_ok h rfl]; rfl
    | false => rw [psE_no h]; rfl
  obtain ⟨A, hA⟩ : ∃ A, A = ipCells V x := ⟨_, rfl⟩
  obtain ⟨C, hC⟩ : ∃ C, C = ipCells U y := ⟨_, rfl⟩
  rw [← hA] at hx2 hy1 hb1 ⊢
  rw [← hC] at hx2 hy1 hb1 ⊢
  clear hA hC
  go_enter Tryd.func30, Tryd.ntmps30
  go_upto_region 1 with fail
  obtain ⟨W, hW⟩ : ∃ W, W = (w.alloc (.cells A 24)).alloc (.cells C 24) := ⟨_, rfl⟩
  rw [← hW] at hx2 hy1 hb1 ⊢
  clear hW
  obtain ⟨B, hB⟩ : ∃ B, B = w.heap.size := ⟨_, rfl⟩
  have HB : Hid (w.heap.size = B) := hB.symm
  rw [← hB] at hx2 hy1 ⊢
  clear hB
  obtain ⟨q, hq⟩ : ∃ q, q = psE V U x y 0 0 := ⟨_, rfl⟩
  rw [← hq] at HPS HE
  clear hq
  go_wp2_with (first | (refine wpList_load_ip (.tmp 2) rfl B V x rfl hx2 rfl ?_) | (refine wpList_load_ip (.tmp 3) rfl (B + 1) U y rfl hy1 rfl ?_))
  refine Calls.mono (HPS.out _) ?_
  rintro e w1 ⟨p, rfl, _, _, hb2⟩
  have HF : Hid (Below w.heap.size w w1) := bthen hb1 hb2
  clear hb2
  go_wp2
  go_ret
  exact ⟨by rw [← HE.out]; rfl, HF.out⟩
set_option maxHeartbeats 800000 in
theorem good9_any (V U : Int) (x y : Nat → Nat) (p : Nat) (a : Option Addr) (n c : Nat) (bs : List Nat) (w : World) (hok : psOk V U x y = true) (hp : p ≤ 255) (hn : n ≤ 65535) (hx : ∀ i, i < 16 → x i < 256) (hy : ∀ i, i < 16 → y i < 256) (hd : DOk w bs a n c) :
    Calls Tryd.prog 32 #[.agg (ipCells V x), .agg (ipCells U y), .int .i64 p, .slice a n c] w fun e w' => e = .returned (.bool (decide (S.fold (S.wv false (psL V U x y p n ++ bs)) = 65535))) ∧ Below w.heap.size w w' := by
  have hx1 := boxed_new w V x 24
  have hy1 := boxed_new (w.alloc (.cells (ipCells V x) 24)) U y 24
  have hb1 : Below w.heap.size w ((w.alloc (.cells (ipCells V x) 24)).alloc (.cells (ipCells U y) 24)) := ((Below.refl _ _).alloc (Nat.le_refl _) _).alloc (by simp) _
  have hx2 := hx1.old ((Below.refl _ _).alloc (Nat.le_refl _) (.cells (ipCells U y) 24))
  clear hx1
  rw [World.size_alloc] at hy1
  have HPS : Hid (∀ W, _) := fun W => pseudo_any V U x y p n W
  have hE : psE V U x y p n = 0 := psE_ok hok (by simp [psIn]; omega)
  have H256 : Hid _ := psL_256 V U x y p n hx hy
  have HLEN : Hid _ := psL_len V U x y p n
  rw [hE] at HPS
  have HD : Hid (DOk w bs a n c) := hd
  obtain ⟨pb, hpb⟩ : ∃ pb, pb = psL V U x y p n := ⟨_, rfl⟩
  rw [← hpb] at HPS H256 HLEN ⊢
  obtain ⟨A, hA⟩ : ∃ A, A = ipCells V x := ⟨_, rfl⟩
  obtain ⟨C, hC⟩ : ∃ C, C = ipCells U y := ⟨_, rfl⟩
  rw [← hA] at hx2 hy1 hb1 ⊢
  rw [← hC] at hx2 hy1 hb1 ⊢
  clear hA hC hok hE hx hy hd hpb
  go_enter Tryd.func32, Tryd.ntmps32
  go_upto_region 1 with fail
  obtain ⟨W, hW⟩ : ∃ W, W = (w.alloc (.cells A 24)).alloc (.cells C 24) := ⟨_, rfl⟩
  rw [← hW] at hx2 hy1 hb1 ⊢
  clear hW
  obtain ⟨B, hB⟩ : ∃ B, B = w.heap.size := ⟨_, rfl⟩
  have HB : Hid (w.heap.size = B) := hB.symm
  rw [← hB] at hx2 hy1 ⊢
  clear hB
  go_wp2_with (first | (refine wpList_load_ip (.tmp 4) rfl B V x rfl hx2 rfl ?_) | (refine wpList_load_ip (.tmp 5) rfl (B + 1) U y rfl hy1 rfl ?_))
  refine Calls.mono (HPS.out _) ?_
  rintro e w1 ⟨v, rfl, ho, _, hb2⟩
  obtain ⟨pa, pcp, hpv⟩ := owns_shape ho
  subst hpv
  have HF : Hid (Below w.heap.size w w1) := bthen hb1 hb2
  have P1 : Part.ok w1 ⟨pa, pcp, pb⟩ := OwnB.part ho H256.out
  have P2 : Part.ok w1 ⟨a, c, bs⟩ := (HD.out.old HF.out).part
  have QG : Hid _ := good_two w1 w1.heap.size pa a pb.length n pcp c pb bs rfl rfl HD.out.dl P1 P2 (by have := HLEN.out; omega)
  obtain ⟨pl, hpl⟩ : ∃ pl, pl = pb.length := ⟨_, rfl⟩
  rw [← hpl] at QG ⊢
  clear hb2 ho P1 P2 hpl
  go_wp2_with fail
  refine Calls.mono QG.out ?_
  rintro e w2 ⟨rfl, hb3⟩
  have HF2 : Hid (Below w.heap.size w w2) := bthen HF.out hb3
  clear hb3
  go_wp2
  go_ret
  exact ⟨rfl, HF2.out⟩
end Go.Proofs.YtfoeepbndfnifaaDoor
