/-
  R4b R4f: lemmas of the proof of FlowPlays, and walks through the functions that it calls.
-/
import Derived.Test.YtclpeepnngegaaaGreatDoorP00
import Derived.Test.YtclpeepnngegaaaGreatDoorP15
namespace Go.Proofs.YtclpeepnngegaaaGreatDoor
open Go.RowKit Go.Maps
def dcN (s : ByteArray) (p : Nat) : Nat → Nat
 | 0 => 0
 | k + 1 => 10 * dcN s p k + (sB s (p + k) - 48)
def dcm (s : ByteArray) (p q most : Nat) : Int := if decide (3 < q - p) || (decide (1 < q - p) && sB s p == 48) then -1 else if most < dcN s p (q - p) then -1 else (dcN s p (q - p) : Nat)
theorem dcN_lt {s : ByteArray} {p : Nat} : ∀ k, (∀ i, i < k → dgB (sB s (p + i)) = true) → dcN s p k < 10 ^ k
 | 0, _ => by simp [dcN]
 | k + 1, h => by
  have h1 := dcN_lt k (fun i hi => h i (by omega))
  have h2 := h k (by omega)
  simp [dgB] at h2
  unfold dcN
  rw [Nat.pow_succ]
  omega
theorem dcN_small {s : ByteArray} {p k : Nat} (hk : k ≤ 3) (h : ∀ i, i < k → dgB (sB s (p + i)) = true) : dcN s p k < 1000 := by
 have h1 := dcN_lt k h
 have h2 : 10 ^ k ≤ 10 ^ 3 := Nat.pow_le_pow_right (by omega) hk
 omega
set_option maxHeartbeats 1600000 in
set_option maxRecDepth 100000 in
theorem decimal_any (s : ByteArray) (p q most : Nat) (w : World) (hp : p ≤ q) (hq : q ≤ s.size) (hs : s.size ≤ 100000) (hd : ∀ i, i < q - p → dgB (sB s (p + i)) = true) : Calls Tryz.prog 85 #[.string s, .int .i64 (p : Nat), .int .i64 (q : Nat), .int .i64 (most : Nat)] w fun r w' => r = .returned (.int .i64 (dcm s p q most)) ∧ w = w' := by
 have HP : Hid (p ≤ q) := hp
 have HQ : Hid (q ≤ s.size) := hq
 have HS : Hid (s.size ≤ 100000) := hs
 have HD : Hid (∀ i, i < q - p → dgB (sB s (p + i)) = true) := hd
 have w1 : IntKind.i64.wrap ((q : Int) - (p : Int)) = (q : Int) - (p : Int) := i64_s _ (by omega) (by omega)
 clear hp hq hs hd
 go_enter Tryz.func85, Tryz.ntmps85
 by_cases h3 : 3 < q - p
 · have q3 : decide ((3 : Int) < (q : Int) - (p : Int)) = true := decide_eq_true (by omega)
   have HR : Hid (dcm s p q most = -1) := by show _ = _; unfold dcm; rw [decide_eq_true h3]; rfl
   clear h3
   go_wp2
   go_ret
   exact ⟨by rw [HR.out]; rfl, rfl⟩
 · have q3 : decide ((3 : Int) < (q : Int) - (p : Int)) = false := decide_eq_false (by omega)
   have H3 : Hid (q - p ≤ 3) := by show _ ≤ _; omega
   obtain ⟨b, hb⟩ : ∃ b, (decide (1 < q - p) && sB s p == 48) = b := ⟨_, rfl⟩
   have HB : Hid ((decide (1 < q - p) && sB s p == 48) = b) := hb
   have HF : Hid (decide (3 < q - p) = false) := decide_eq_false h3
   clear h3 hb
   cases b with
   | true =>
    have h := HB.out
    simp at h
    have H0 : Hid (p < s.size) := by have := HQ.out; show _ < _; omega
    have q1 : decide ((1 : Int) < (q : Int) - (p : Int)) = true := decide_eq_true (by omega)
    have q2 : (((sB s p : Nat) : Int) == 48) = true := by simp [h.2]
    have HR : Hid (dcm s p q most = -1) := by show _ = _; unfold dcm; rw [HB.out, HF.out]; rfl
    clear h
    go_wp2_with (first | (refine wpList_sB (.tmp 21) (.tmp 22) rfl s p _ rfl rfl rfl H0.out rfl ?_))
    go_ret
    exact ⟨by rw [HR.out]; rfl, rfl⟩
   | false =>
    have HR : Hid (dcm s p q most = if most < dcN s p (q - p) then (-1 : Int) else ((dcN s p (q - p) : Nat) : Int)) := by show _ = _; unfold dcm; rw [HB.out, HF.out]; rfl
    by_cases h1 : 1 < q - p
    · have q1 : decide ((1 : Int) < (q : Int) - (p : Int)) = true := decide_eq_true (by omega)
      have H0 : Hid (p < s.size) := by have := HQ.out; show _ < _; omega
      have q2 : (((sB s p : Nat) : Int) == 48) = false := by have := HB.out; simp [h1] at this; simp; omega
      clear h1
      go_wp2_with (first | (refine wpList_sB (.tmp 21) (.tmp 22) rfl s p _ rfl rfl rfl H0.out rfl ?_))
      go_loopw [9, 10] (fun nv ix wr => ∃ i n : Nat, p ≤ i ∧ i ≤ q ∧ ix = .int .i64 (i : Nat) ∧ nv = .int .i64 (n : Nat) ∧ Hid (n = dcN s p (i - p)) ∧ w = wr) (fun _ ix _ => q - (intOf ix).toNat)
      case atStart => exact ⟨p, 0, Nat.le_refl _, HP.out, rfl, rfl, by show _ = _; rw [Nat.sub_self]; rfl, rfl⟩
      case round =>
       obtain ⟨i, n, hi1, hi2, rfl, rfl, HNN, rfl⟩ := hrel
       have HI : Hid (p ≤ i ∧ i ≤ q) := ⟨hi1, hi2⟩
       have HLT0 : Hid (n < 1000) := by show n < 1000; rw [HNN.out]; exact dcN_small (by have := H3.out; omega) (fun j hj => HD.out j (by omega))
       clear hi1 hi2
       by_cases hlt : i < q
       · have p1 : decide ((i : Int) < (q : Int)) = true := decide_eq_true (by omega)
         have p0 : decide (i < q) = true := decide_eq_true hlt
         have HD1 : Hid (48 ≤ sB s i ∧ sB s i ≤ 57) := by
          have := HD.out (i - p) (by have := HI.out; omega)
          rw [show p + (i - p) = i by have := HI.out; omega] at this
          simp [dgB] at this
          exact this
         have HIS : Hid (i < s.size) := by have := HQ.out; show i < _; omega
         have HLT : Hid (i < q) := hlt
         obtain ⟨d, hd⟩ : ∃ d : Nat, d = sB s i - 48 := ⟨_, rfl⟩
         have HDE : Hid (d = sB s i - 48) := hd
         clear hd
         have HD9 : Hid (d ≤ 9) := by have h1 := HDE.out; have h2 := HD1.out; show d ≤ 9; omega
         have x1 : IntKind.u8.wrap (((sB s i : Nat) : Int) - 48) = (d : Int) := by have h1 := HDE.out; have h2 := HD1.out; rw [u8_s _ (by omega) (by omega)]; omega
         have x2 : IntKind.i64.wrap (10 * (n : Int)) = 10 * (n : Int) := i64_s _ (by omega) (by have := HLT0.out; omega)
         have x3 : IntKind.i64.wrap (d : Int) = (d : Int) := i64_s _ (by omega) (by have := HD9.out; omega)
         have x4 : IntKind.i64.wrap (10 * (n : Int) + (d : Int)) = 10 * (n : Int) + (d : Int) := i64_s _ (by omega) (by have := HD9.out; have := HLT0.out; omega)
         have x5 : IntKind.i64.wrap ((i : Int) + 1) = (i : Int) + 1 := i64_s _ (by omega) (by have := HS.out; have := HIS.out; omega)
         clear hlt
         go_wp2_with (refine wpList_sB (.tmp 35) (.tmp 36) rfl s i _ rfl rfl rfl HIS.out rfl ?_)
         go_roundw
         case rel =>
          refine ⟨i + 1, 10 * n + d, by have := HI.out; omega, HLT.out, by simp, by simp, ?_, by first | rfl | trivial⟩
          show _ = _
          rw [show i + 1 - p = (i - p) + 1 by have := HI.out; omega]
          unfold dcN
          rw [← HNN.out, HDE.out, show p + (i - p) = i by have := HI.out; omega]
         case measure => have := HLT.out; simp [intOf]; omega
       · have p1 : decide ((i : Int) < (q : Int)) = false := decide_eq_false (by omega)
         have p0 : decide (i < q) = false := decide_eq_false hlt
         have HNE : Hid (n = dcN s p (q - p)) := by show _ = _; rw [HNN.out, show i = q by have := HI.out; omega]
         clear hlt
         by_cases hm : most < n
         · have m1 : decide ((most : Int) < (n : Int)) = true := decide_eq_true (by omega)
           have m0 : decide (most < n) = true := decide_eq_true hm
           have HZ : Hid (dcm s p q most = -1) := by show _ = _; rw [HR.out, ← HNE.out, if_pos hm]
           clear hm
           go_wp2
           go_ret
           exact ⟨by rw [HZ.out]; rfl, rfl⟩
         · have m1 : decide ((most : Int) < (n : Int)) = false := decide_eq_false (by omega)
           have m0 : decide (most < n) = false := decide_eq_false hm
           have HZ : Hid (dcm s p q most = (n : Nat)) := by show _ = _; rw [HR.out, ← HNE.out, if_neg hm]
           clear hm
           go_wp2
           go_ret
           exact ⟨by rw [HZ.out]; rfl, rfl⟩
    · have q1 : decide ((1 : Int) < (q : Int) - (p : Int)) = false := decide_eq_false (by omega)
      clear h1
      go_wp2
      go_loopw [9, 10] (fun nv ix wr => ∃ i n : Nat, p ≤ i ∧ i ≤ q ∧ ix = .int .i64 (i : Nat) ∧ nv = .int .i64 (n : Nat) ∧ Hid (n = dcN s p (i - p)) ∧ w = wr) (fun _ ix _ => q - (intOf ix).toNat)
      case atStart => exact ⟨p, 0, Nat.le_refl _, HP.out, rfl, rfl, by show _ = _; rw [Nat.sub_self]; rfl, rfl⟩
      case round =>
       obtain ⟨i, n, hi1, hi2, rfl, rfl, HNN, rfl⟩ := hrel
       have HI : Hid (p ≤ i ∧ i ≤ q) := ⟨hi1, hi2⟩
       have HLT0 : Hid (n < 1000) := by show n < 1000; rw [HNN.out]; exact dcN_small (by have := H3.out; omega) (fun j hj => HD.out j (by omega))
       clear hi1 hi2
       by_cases hlt : i < q
       · have p1 : decide ((i : Int) < (q : Int)) = true := decide_eq_true (by omega)
         have p0 : decide (i < q) = true := decide_eq_true hlt
         have HD1 : Hid (48 ≤ sB s i ∧ sB s i ≤ 57) := by
          have := HD.out (i - p) (by have := HI.out; omega)
          rw [show p + (i - p) = i by have := HI.out; omega] at this
          simp [dgB] at this
          exact this
         have HIS : Hid (i < s.size) := by have := HQ.out; show i < _; omega
         have HLT : Hid (i < q) := hlt
         obtain ⟨d, hd⟩ : ∃ d : Nat, d = sB s i - 48 := ⟨_, rfl⟩
         have HDE : Hid (d = sB s i - 48) := hd
         clear hd
         have HD9 : Hid (d ≤ 9) := by have h1 := HDE.out; have h2 := HD1.out; show d ≤ 9; omega
         have x1 : IntKind.u8.wrap (((sB s i : Nat) : Int) - 48) = (d : Int) := by have h1 := HDE.out; have h2 := HD1.out; rw [u8_s _ (by omega) (by omega)]; omega
         have x2 : IntKind.i64.wrap (10 * (n : Int)) = 10 * (n : Int) := i64_s _ (by omega) (by have := HLT0.out; omega)
         have x3 : IntKind.i64.wrap (d : Int) = (d : Int) := i64_s _ (by omega) (by have := HD9.out; omega)
         have x4 : IntKind.i64.wrap (10 * (n : Int) + (d : Int)) = 10 * (n : Int) + (d : Int) := i64_s _ (by omega) (by have := HD9.out; have := HLT0.out; omega)
         have x5 : IntKind.i64.wrap ((i : Int) + 1) = (i : Int) + 1 := i64_s _ (by omega) (by have := HS.out; have := HIS.out; omega)
         clear hlt
         go_wp2_with (refine wpList_sB (.tmp 35) (.tmp 36) rfl s i _ rfl rfl rfl HIS.out rfl ?_)
         go_roundw
         case rel =>
          refine ⟨i + 1, 10 * n + d, by have := HI.out; omega, HLT.out, by simp, by simp, ?_, by first | rfl | trivial⟩
          show _ = _
          rw [show i + 1 - p = (i - p) + 1 by have := HI.out; omega]
          unfold dcN
          rw [← HNN.out, HDE.out, show p + (i - p) = i by have := HI.out; omega]
         case measure => have := HLT.out; simp [intOf]; omega
       · have p1 : decide ((i : Int) < (q : Int)) = false := decide_eq_false (by omega)
         have p0 : decide (i < q) = false := decide_eq_false hlt
         have HNE : Hid (n = dcN s p (q - p)) := by show _ = _; rw [HNN.out, show i = q by have := HI.out; omega]
         clear hlt
         by_cases hm : most < n
         · have m1 : decide ((most : Int) < (n : Int)) = true := decide_eq_true (by omega)
           have m0 : decide (most < n) = true := decide_eq_true hm
           have HZ : Hid (dcm s p q most = -1) := by show _ = _; rw [HR.out, ← HNE.out, if_pos hm]
           clear hm
           go_wp2
           go_ret
           exact ⟨by rw [HZ.out]; rfl, rfl⟩
         · have m1 : decide ((most : Int) < (n : Int)) = false := decide_eq_false (by omega)
           have m0 : decide (most < n) = false := decide_eq_false hm
           have HZ : Hid (dcm s p q most = (n : Nat)) := by show _ = _; rw [HR.out, ← HNE.out, if_neg hm]
           clear hm
           go_wp2
           go_ret
           exact ⟨by rw [HZ.out]; rfl, rfl⟩
end Go.Proofs.YtclpeepnngegaaaGreatDoor
namespace Go.Proofs.YtclpeepnngegaaaGreatDoor
open Go.RowKit Go.Maps
def scn (s : ByteArray) (f : Nat → Bool) : Nat → Nat → Nat
 | 0, p => p
 | n + 1, p => if decide (p < s.size) && f (sB s p) then scn s f n (p + 1) else p
def scP (s : ByteArray) (f : Nat → Bool) (p : Nat) : Nat := scn s f (s.size - p) p
theorem scP_step {s : ByteArray} {f : Nat → Bool} {p : Nat} (h1 : p < s.size) (h2 : f (sB s p) = true) : scP s f p = scP s f (p + 1) := by
 unfold scP
 rw [show s.size - p = (s.size - (p + 1)) + 1 by omega]
 conv => lhs; unfold scn
 rw [decide_eq_true h1, h2]
 rfl
theorem scP_stop {s : ByteArray} {f : Nat → Bool} {p : Nat} (h : (decide (p < s.size) && f (sB s p)) = false) : scP s f p = p := by
 unfold scP
 cases hn : s.size - p with
 | zero => rfl
 | succ n => unfold scn; rw [h]; rfl
def dtd (s : ByteArray) : Nat → Nat → List Nat → Sum (List Nat) (Nat × Nat)
 | 0, p, l => if decide (p < s.size) then .inr (41, p) else .inl l
 | m + 1, p, l =>
  if scP s dgB p == p then .inr (hrE s p) else
  if decide (dcm s p (scP s dgB p) 255 < 0) then .inr (43, p) else
  if m == 0 then dtd s 0 (scP s dgB p) (l ++ [(dcm s p (scP s dgB p) 255).toNat]) else
  if decide (s.size ≤ scP s dgB p) || sB s (scP s dgB p) != 46 then .inr (hrE s (scP s dgB p)) else
  dtd s m (scP s dgB p + 1) (l ++ [(dcm s p (scP s dgB p) 255).toNat])
theorem dcm_le {s : ByteArray} {p q most : Nat} : dcm s p q most ≤ most := by
 unfold dcm
 split
 · omega
 · split <;> omega
theorem cellsOne (w : World) (v : Value) (T : TypeId) : ∀ j u, [v][j]? = some u → (w.alloc (.cells #[v] T)).cell? ((⟨w.heap.size, 0, none⟩ : Addr).add j) = some u := by
 intro j u h
 cases j with
 | zero =>
  simp at h
  subst h
  exact World.cell?_alloc_at _ _ _ _ rfl
 | succ j => simp at h
def DtR (s : ByteArray) (p : Nat) (w : World) (r : Ending) (w' : World) : Prop := match dtd s 4 p [] with
 | .inr e => r = .returned (.tuple #[.slice none 0 0, .int .i64 (e.1 : Nat), .int .i64 (e.2 : Nat)])
 | .inl l => ∃ v, r = .returned (.tuple #[v, .int .i64 0, .int .i64 0]) ∧ w'.ownsRow w.heap.size 5 1 v l.length (l.map fun n => Value.int .u8 (n : Nat))
theorem DtR.no {s : ByteArray} {p : Nat} {w w' : World} {r : Ending} {e : Nat × Nat} (h : dtd s 4 p [] = .inr e) (hr : r = .returned (.tuple #[.slice none 0 0, .int .i64 (e.1 : Nat), .int .i64 (e.2 : Nat)])) : DtR s p w r w' := by unfold DtR; rw [h]; exact hr
theorem DtR.yes {s : ByteArray} {p : Nat} {w w' : World} {r : Ending} {l : List Nat} (h : dtd s 4 p [] = .inl l) (v : Value) (hr : r = .returned (.tuple #[v, .int .i64 0, .int .i64 0])) (ho : w'.ownsRow w.heap.size 5 1 v l.length (l.map fun n => Value.int .u8 (n : Nat))) : DtR s p w r w' := by unfold DtR; rw [h]; exact ⟨v, hr, ho⟩
def slN : Value → Nat
 | .slice _ n _ => n
 | _ => 0
set_option maxHeartbeats 1600000 in
set_option maxRecDepth 100000 in
theorem dotted_any (s : ByteArray) (p0 : Nat) (w : World) (hs : s.size ≤ 1000) (hp : p0 ≤ s.size) : Calls Tryz.prog 97 #[.string s, .int .i64 (p0 : Nat)] w fun r w' => DtR s p0 w r w' ∧ Below w.heap.size w w' := by
 have HS : Hid (s.size ≤ 1000) := hs
 have HP0 : Hid (p0 ≤ s.size) := hp
 clear hs hp
 obtain ⟨i0, hi, hz0, hz1, hz2⟩ := info_parts Tryz.infoByte
 have HI : Hid (Tryz.prog.info? 5 = some i0 ∧ i0.zero = some (.int .u8 0) ∧ i0.size = 1 ∧ i0.bytes = 1) := ⟨hi, hz0, hz1, hz2⟩
 clear hi hz0 hz1 hz2
 go_enter Tryz.func97, Tryz.ntmps97
 go_wp2
 go_loopw [7, 1] (fun lv pv wr => ∃ (l : List Nat) (N p m : Nat), N + m = 4 ∧ p ≤ s.size ∧ pv = .int .i64 (p : Nat) ∧ Hid (N = l.length ∧ dtd s m p l = dtd s 4 p0 []) ∧ Hid (wr.ownsRow w.heap.size 5 1 lv N (l.map fun n => Value.int .u8 (n : Nat)) ∧ Below w.heap.size w wr)) (fun lv _ _ => 4 - slN lv)
 case atStart => exact ⟨[], 0, p0, 4, rfl, HP0.out, rfl, ⟨rfl, rfl⟩, World.ownsRow_nil _ _ _ _, Below.refl _ _⟩
 case round =>
  rename_i lv pv
  obtain ⟨l, N, p, m, hm, hp, rfl, HD, HO⟩ := hrel
  obtain ⟨a, c, hlv⟩ := owns_shape HO.out.1
  subst hlv
  have HP : Hid (p ≤ s.size) := hp
  have HNM : Hid (N + m = 4) := hm
  clear hp hm
  by_cases h4 : N < 4
  · have n1 : decide ((N : Int) < 4) = true := decide_eq_true (by omega)
    have n2 : (N : Int) < 4 := by omega
    obtain ⟨m', hm'⟩ : ∃ m', m = m' + 1 := ⟨m - 1, by have := HNM.out; omega⟩
    subst hm'
    clear h4
    go_wp2
    go_loopw [8] (fun qv wq => ∃ q : Nat, p ≤ q ∧ q ≤ s.size ∧ qv = .int .i64 (q : Nat) ∧ Hid (scP s dgB q = scP s dgB p ∧ ∀ i, i < q - p → dgB (sB s (p + i)) = true) ∧ wr = wq) (fun qv _ => s.size - (intOf qv).toNat)
    case atStart => exact ⟨p, Nat.le_refl _, HP.out, rfl, ⟨rfl, fun i hi => by omega⟩, rfl⟩
    case round =>
     obtain ⟨q, hq1, hq2, rfl, HQ, rfl⟩ := hrel
     have HQB : Hid (p ≤ q ∧ q ≤ s.size) := ⟨hq1, hq2⟩
     clear hq1 hq2
     by_cases hlt : q < s.size
     · have p1 : decide ((q : Int) < (s.size : Int)) = true := decide_eq_true (by omega)
       have p2 : decide (q < s.size) = true := decide_eq_true hlt
       have w1 : IntKind.i64.wrap ((q : Int) + 1) = (q : Int) + 1 := i64_s _ (by omega) (by have := HS.out; omega)
       have HLT : Hid (q < s.size) := hlt
       clear hlt
       obtain ⟨b, hb⟩ : ∃ b, dgB (sB s q) = b := ⟨_, rfl⟩
       have HB : Hid (dgB (sB s q) = b) := hb
       clear hb
       go_wp2_with (refine wpList_sB (.tmp 23) (.tmp 24) rfl s q _ rfl rfl rfl HLT.out rfl ?_)
       refine (digit_any (sB s q) wr).mono ?_
       rintro e1 wz ⟨rfl, rfl⟩
       rw [HB.out]
       cases b with
       | true =>
        go_wp2
        go_roundw
        case rel =>
         refine ⟨q + 1, by have := HQB.out; omega, HLT.out, by simp, ⟨by rw [← scP_step HLT.out HB.out]; exact HQ.out.1, fun i hi => ?_⟩, by first | rfl | trivial⟩
         by_cases h : i < q - p
         · exact HQ.out.2 i h
         · rw [show p + i = q by have := HQB.out; omega]; exact HB.out
        case measure => have := HLT.out; simp [intOf]; omega
       | false =>
        have HQE : Hid (scP s dgB p = q) := by show _ = _; rw [← HQ.out.1]; exact scP_stop (by rw [HB.out]; simp)
        by_cases hqp : q = p
        · have e1 : ((q : Int) == (p : Int)) = true := by simp [hqp]
          have e2 : (q == p) = true := by simp [hqp]
          have e3 : decide (q = p) = true := by simp [hqp]
          have HZ : Hid (dtd s 4 p0 [] = .inr (hrE s p)) := by show _ = _; rw [← HD.out.2]; unfold dtd; rw [HQE.out, e2]; rfl
          clear hqp
          go_wp2_with fail
          refine (here_any s p wr).mono ?_
          rintro e4 wz ⟨rfl, rfl⟩
          go_wp2
          refine bodyPost_ret (results_tmp3 rfl _ _ _) rfl ?_
          exact ⟨DtR.no HZ.out rfl, HO.out.2⟩
        · have e1 : ((q : Int) == (p : Int)) = false := by simp; omega
          have e2 : (q == p) = false := by simp [hqp]
          have e3 : decide (q = p) = false := by simp [hqp]
          clear hqp
          go_wp2_with fail
          refine (decimal_any s p q 255 wr HQB.out.1 HQB.out.2 (by have := HS.out; omega) HQ.out.2).mono ?_
          rintro e4 wz ⟨rfl, rfl⟩
          obtain ⟨n, hn⟩ : ∃ n, dcm s p q 255 = n := ⟨_, rfl⟩
          have HN : Hid (dcm s p q 255 = n) := hn
          have HN5 : Hid (n ≤ 255) := by show n ≤ 255; rw [← hn]; exact dcm_le
          rw [hn]
          clear hn
          by_cases hneg : n < 0
          · have d1 : decide (n < 0) = true := decide_eq_true hneg
            have HZ : Hid (dtd s 4 p0 [] = .inr (43, p)) := by show _ = _; rw [← HD.out.2]; unfold dtd; rw [HQE.out, e2, HN.out, d1]; rfl
            clear hneg
            go_wp2
            refine bodyPost_ret (results_tmp3 rfl _ _ _) rfl ?_
            exact ⟨DtR.no HZ.out rfl, HO.out.2⟩
          · have d1 : decide (n < 0) = false := decide_eq_false hneg
            obtain ⟨k, hk⟩ : ∃ k : Nat, n = (k : Int) := ⟨n.toNat, by omega⟩
            subst hk
            have d2 : IntKind.u8.wrap (k : Int) = (k : Int) := u8_s _ (by omega) (by have := HN5.out; omega)
            have HD2 : Hid (dtd s (m' + 1) p l = if m' == 0 then dtd s 0 q (l ++ [k]) else if decide (s.size ≤ q) || sB s q != 46 then .inr (hrE s q) else dtd s m' (q + 1) (l ++ [k])) := by
             show _ = _
             conv => lhs; unfold dtd
             rw [HQE.out, e2, HN.out, d1]
             rfl
            clear hneg
            go_wp2_with (at_builtin; refine wpList_append_own_at _ rfl (.tmp 48) (.tmp 51) 150 rfl w.heap.size 5 i0 (.int .u8 0) 1 1 Tryz.underlying150 HI.out.1 HI.out.2.1 HI.out.2.2.1 HI.out.2.2.2 rfl (by decide) _ _ _ rfl (HO.out.1.alloc _) ⟨wr.heap.size, 0, none⟩ 1 1 [.int .u8 (k : Nat)] rfl rfl (cellsOne _ _ _) (by intro u hu; simp at hu; subst hu; rfl) (by have := HNM.out; unfold maxLen; omega) (by have := HNM.out; omega) (by have := HO.out.2.size; simp; omega) ?_)
            intro v2 w2 ho2 hg2 _ _
            have H2 : Hid (w2.ownsRow w.heap.size 5 1 v2 (N + 1) ((l ++ [k]).map fun n => Value.int .u8 (n : Nat)) ∧ Below w.heap.size w w2) := ⟨by rw [List.map_append]; exact ho2, (HO.out.2.alloc HO.out.2.size _).grown hg2 (by have := HO.out.2.size; simp; omega) (fun j hj => (HO.out.1.lt j hj).1)⟩
            obtain ⟨N1, hN1⟩ : ∃ N1, N1 = N + 1 := ⟨_, rfl⟩
            have HN1 : Hid (N1 = N + 1) := hN1
            rw [← hN1] at ho2
            obtain ⟨a2, c2, rfl⟩ := owns_shape ho2
            have H3 : Hid (w2.ownsRow w.heap.size 5 1 (.slice a2 N1 c2) N1 ((l ++ [k]).map fun n => Value.int .u8 (n : Nat)) ∧ Below w.heap.size w w2) := by rw [hN1] at H2 ⊢; exact H2
            clear ho2 hg2 hN1 H2
            by_cases hN4 : N1 < 4
            · have f1 : decide ((N1 : Int) < 4) = true := decide_eq_true (by omega)
              have f2 : (N1 : Int) < 4 := by omega
              have f3 : (m' == 0) = false := by have h1 := HN1.out; have h2 := HNM.out; simp; omega
              clear hN4
              by_cases hqs : s.size ≤ q
              · have g1 : decide ((s.size : Int) ≤ (q : Int)) = true := decide_eq_true (by omega)
                have g2 : decide (s.size ≤ q) = true := decide_eq_true hqs
                have HZ : Hid (dtd s 4 p0 [] = .inr (hrE s q)) := by show _ = _; rw [← HD.out.2, HD2.out, f3, g2]; rfl
                clear hqs
                go_wp2_with fail
                refine (here_any s q w2).mono ?_
                rintro e4 wz ⟨rfl, rfl⟩
                go_wp2
                refine bodyPost_ret (results_tmp3 rfl _ _ _) rfl ?_
                exact ⟨DtR.no HZ.out rfl, H3.out.2⟩
              · have g1 : decide ((s.size : Int) ≤ (q : Int)) = false := decide_eq_false (by omega)
                have g2 : decide (s.size ≤ q) = false := decide_eq_false hqs
                have HQS : Hid (q < s.size) := by show q < s.size; omega
                clear hqs
                by_cases hdot : sB s q = 46
                · have j1 : (((sB s q : Nat) : Int) != 46) = false := by simp [hdot]
                  have j2 : (((sB s q : Nat) : Int) == 46) = true := by simp [hdot]
                  have j3 : IntKind.i64.wrap ((q : Int) + 1) = (q : Int) + 1 := i64_s _ (by omega) (by have := HS.out; have := HQS.out; omega)
                  have HZ : Hid (dtd s m' (q + 1) (l ++ [k]) = dtd s 4 p0 []) := by show _ = _; rw [← HD.out.2, HD2.out, f3, g2, hdot]; rfl
                  clear hdot
                  go_wp2_with (refine wpList_sB (.tmp 62) (.tmp 63) rfl s q _ rfl rfl rfl HQS.out rfl ?_)
                  go_roundw
                  case rel => exact ⟨l ++ [k], N1, q + 1, m', by have h1 := HN1.out; have h2 := HNM.out; omega, HQS.out, by simp, ⟨by rw [HN1.out, HD.out.1]; simp, HZ.out⟩, H3.out⟩
                  case measure => have h1 := HN1.out; have h2 := HNM.out; simp [slN]; omega
                · have j1 : (((sB s q : Nat) : Int) != 46) = true := by simp; omega
                  have j2 : (((sB s q : Nat) : Int) == 46) = false := by simp; omega
                  have j4 : (sB s q != 46) = true := by simp [hdot]
                  have HZ : Hid (dtd s 4 p0 [] = .inr (hrE s q)) := by show _ = _; rw [← HD.out.2, HD2.out, f3, g2, j4]; rfl
                  clear hdot
                  go_wp2_with (refine wpList_sB (.tmp 62) (.tmp 63) rfl s q _ rfl rfl rfl HQS.out rfl ?_)
                  refine (here_any s q w2).mono ?_
                  rintro e4 wz ⟨rfl, rfl⟩
                  go_wp2
                  refine bodyPost_ret (results_tmp3 rfl _ _ _) rfl ?_
                  exact ⟨DtR.no HZ.out rfl, H3.out.2⟩
            · have f1 : decide ((N1 : Int) < 4) = false := decide_eq_false (by omega)
              have f2 : ¬ (N1 : Int) < 4 := by omega
              obtain rfl : m' = 0 := by have h1 := HN1.out; have h2 := HNM.out; omega
              have HZ : Hid (dtd s 0 q (l ++ [k]) = dtd s 4 p0 []) := by show _ = _; rw [← HD.out.2, HD2.out]; rfl
              clear hN4
              go_wp2
              go_roundw
              case rel => exact ⟨l ++ [k], N1, q, 0, by have h1 := HN1.out; have h2 := HNM.out; omega, HQB.out.2, rfl, ⟨by rw [HN1.out, HD.out.1]; simp, HZ.out⟩, H3.out⟩
              case measure => have h1 := HN1.out; have h2 := HNM.out; simp [slN]; omega
     · have p1 : decide ((q : Int) < (s.size : Int)) = false := decide_eq_false (by omega)
       have p2 : decide (q < s.size) = false := decide_eq_false hlt
       have HQE : Hid (scP s dgB p = q) := by show _ = _; rw [← HQ.out.1]; exact scP_stop (by rw [p2]; simp)
       clear hlt
       by_cases hqp : q = p
       · have e1 : ((q : Int) == (p : Int)) = true := by simp [hqp]
         have e2 : (q == p) = true := by simp [hqp]
         have e3 : decide (q = p) = true := by simp [hqp]
         have HZ : Hid (dtd s 4 p0 [] = .inr (hrE s p)) := by show _ = _; rw [← HD.out.2]; unfold dtd; rw [HQE.out, e2]; rfl
         clear hqp
         go_wp2_with fail
         refine (here_any s p wr).mono ?_
         rintro e4 wz ⟨rfl, rfl⟩
         go_wp2
         refine bodyPost_ret (results_tmp3 rfl _ _ _) rfl ?_
         exact ⟨DtR.no HZ.out rfl, HO.out.2⟩
       · have e1 : ((q : Int) == (p : Int)) = false := by simp; omega
         have e2 : (q == p) = false := by simp [hqp]
         have e3 : decide (q = p) = false := by simp [hqp]
         clear hqp
         go_wp2_with fail
         refine (decimal_any s p q 255 wr HQB.out.1 HQB.out.2 (by have := HS.out; omega) HQ.out.2).mono ?_
         rintro e4 wz ⟨rfl, rfl⟩
         obtain ⟨n, hn⟩ : ∃ n, dcm s p q 255 = n := ⟨_, rfl⟩
         have HN : Hid (dcm s p q 255 = n) := hn
         have HN5 : Hid (n ≤ 255) := by show n ≤ 255; rw [← hn]; exact dcm_le
         rw [hn]
         clear hn
         by_cases hneg : n < 0
         · have d1 : decide (n < 0) = true := decide_eq_true hneg
           have HZ : Hid (dtd s 4 p0 [] = .inr (43, p)) := by show _ = _; rw [← HD.out.2]; unfold dtd; rw [HQE.out, e2, HN.out, d1]; rfl
           clear hneg
           go_wp2
           refine bodyPost_ret (results_tmp3 rfl _ _ _) rfl ?_
           exact ⟨DtR.no HZ.out rfl, HO.out.2⟩
         · have d1 : decide (n < 0) = false := decide_eq_false hneg
           obtain ⟨k, hk⟩ : ∃ k : Nat, n = (k : Int) := ⟨n.toNat, by omega⟩
           subst hk
           have d2 : IntKind.u8.wrap (k : Int) = (k : Int) := u8_s _ (by omega) (by have := HN5.out; omega)
           have HD2 : Hid (dtd s (m' + 1) p l = if m' == 0 then dtd s 0 q (l ++ [k]) else if decide (s.size ≤ q) || sB s q != 46 then .inr (hrE s q) else dtd s m' (q + 1) (l ++ [k])) := by
            show _ = _
            conv => lhs; unfold dtd
            rw [HQE.out, e2, HN.out, d1]
            rfl
           clear hneg
           go_wp2_with (at_builtin; refine wpList_append_own_at _ rfl (.tmp 48) (.tmp 51) 150 rfl w.heap.size 5 i0 (.int .u8 0) 1 1 Tryz.underlying150 HI.out.1 HI.out.2.1 HI.out.2.2.1 HI.out.2.2.2 rfl (by decide) _ _ _ rfl (HO.out.1.alloc _) ⟨wr.heap.size, 0, none⟩ 1 1 [.int .u8 (k : Nat)] rfl rfl (cellsOne _ _ _) (by intro u hu; simp at hu; subst hu; rfl) (by have := HNM.out; unfold maxLen; omega) (by have := HNM.out; omega) (by have := HO.out.2.size; simp; omega) ?_)
           intro v2 w2 ho2 hg2 _ _
           have H2 : Hid (w2.ownsRow w.heap.size 5 1 v2 (N + 1) ((l ++ [k]).map fun n => Value.int .u8 (n : Nat)) ∧ Below w.heap.size w w2) := ⟨by rw [List.map_append]; exact ho2, (HO.out.2.alloc HO.out.2.size _).grown hg2 (by have := HO.out.2.size; simp; omega) (fun j hj => (HO.out.1.lt j hj).1)⟩
           obtain ⟨N1, hN1⟩ : ∃ N1, N1 = N + 1 := ⟨_, rfl⟩
           have HN1 : Hid (N1 = N + 1) := hN1
           rw [← hN1] at ho2
           obtain ⟨a2, c2, rfl⟩ := owns_shape ho2
           have H3 : Hid (w2.ownsRow w.heap.size 5 1 (.slice a2 N1 c2) N1 ((l ++ [k]).map fun n => Value.int .u8 (n : Nat)) ∧ Below w.heap.size w w2) := by rw [hN1] at H2 ⊢; exact H2
           clear ho2 hg2 hN1 H2
           by_cases hN4 : N1 < 4
           · have f1 : decide ((N1 : Int) < 4) = true := decide_eq_true (by omega)
             have f2 : (N1 : Int) < 4 := by omega
             have f3 : (m' == 0) = false := by have h1 := HN1.out; have h2 := HNM.out; simp; omega
             clear hN4
             by_cases hqs : s.size ≤ q
             · have g1 : decide ((s.size : Int) ≤ (q : Int)) = true := decide_eq_true (by omega)
               have g2 : decide (s.size ≤ q) = true := decide_eq_true hqs
               have HZ : Hid (dtd s 4 p0 [] = .inr (hrE s q)) := by show _ = _; rw [← HD.out.2, HD2.out, f3, g2]; rfl
               clear hqs
               go_wp2_with fail
               refine (here_any s q w2).mono ?_
               rintro e4 wz ⟨rfl, rfl⟩
               go_wp2
               refine bodyPost_ret (results_tmp3 rfl _ _ _) rfl ?_
               exact ⟨DtR.no HZ.out rfl, H3.out.2⟩
             · have g1 : decide ((s.size : Int) ≤ (q : Int)) = false := decide_eq_false (by omega)
               have g2 : decide (s.size ≤ q) = false := decide_eq_false hqs
               have HQS : Hid (q < s.size) := by show q < s.size; omega
               clear hqs
               by_cases hdot : sB s q = 46
               · have j1 : (((sB s q : Nat) : Int) != 46) = false := by simp [hdot]
                 have j2 : (((sB s q : Nat) : Int) == 46) = true := by simp [hdot]
                 have j3 : IntKind.i64.wrap ((q : Int) + 1) = (q : Int) + 1 := i64_s _ (by omega) (by have := HS.out; have := HQS.out; omega)
                 have HZ : Hid (dtd s m' (q + 1) (l ++ [k]) = dtd s 4 p0 []) := by show _ = _; rw [← HD.out.2, HD2.out, f3, g2, hdot]; rfl
                 clear hdot
                 go_wp2_with (refine wpList_sB (.tmp 62) (.tmp 63) rfl s q _ rfl rfl rfl HQS.out rfl ?_)
                 go_roundw
                 case rel => exact ⟨l ++ [k], N1, q + 1, m', by have h1 := HN1.out; have h2 := HNM.out; omega, HQS.out, by simp, ⟨by rw [HN1.out, HD.out.1]; simp, HZ.out⟩, H3.out⟩
                 case measure => have h1 := HN1.out; have h2 := HNM.out; simp [slN]; omega
               · have j1 : (((sB s q : Nat) : Int) != 46) = true := by simp; omega
                 have j2 : (((sB s q : Nat) : Int) == 46) = false := by simp; omega
                 have j4 : (sB s q != 46) = true := by simp [hdot]
                 have HZ : Hid (dtd s 4 p0 [] = .inr (hrE s q)) := by show _ = _; rw [← HD.out.2, HD2.out, f3, g2, j4]; rfl
                 clear hdot
                 go_wp2_with (refine wpList_sB (.tmp 62) (.tmp 63) rfl s q _ rfl rfl rfl HQS.out rfl ?_)
                 refine (here_any s q w2).mono ?_
                 rintro e4 wz ⟨rfl, rfl⟩
                 go_wp2
                 refine bodyPost_ret (results_tmp3 rfl _ _ _) rfl ?_
                 exact ⟨DtR.no HZ.out rfl, H3.out.2⟩
           · have f1 : decide ((N1 : Int) < 4) = false := decide_eq_false (by omega)
             have f2 : ¬ (N1 : Int) < 4 := by omega
             obtain rfl : m' = 0 := by have h1 := HN1.out; have h2 := HNM.out; omega
             have HZ : Hid (dtd s 0 q (l ++ [k]) = dtd s 4 p0 []) := by show _ = _; rw [← HD.out.2, HD2.out]; rfl
             clear hN4
             go_wp2
             go_roundw
             case rel => exact ⟨l ++ [k], N1, q, 0, by have h1 := HN1.out; have h2 := HNM.out; omega, HQB.out.2, rfl, ⟨by rw [HN1.out, HD.out.1]; simp, HZ.out⟩, H3.out⟩
             case measure => have h1 := HN1.out; have h2 := HNM.out; simp [slN]; omega
  · have n1 : decide ((N : Int) < 4) = false := decide_eq_false (by omega)
    have n2 : ¬ (N : Int) < 4 := by omega
    obtain rfl : m = 0 := by have := HNM.out; omega
    clear h4
    by_cases hlt : p < s.size
    · have p1 : decide ((p : Int) < (s.size : Int)) = true := decide_eq_true (by omega)
      have p2 : decide (p < s.size) = true := decide_eq_true hlt
      have HZ : Hid (dtd s 4 p0 [] = .inr (41, p)) := by show _ = _; rw [← HD.out.2]; unfold dtd; rw [p2]; rfl
      clear hlt
      go_wp2
      refine bodyPost_ret (results_tmp3 rfl _ _ _) rfl ?_
      exact ⟨DtR.no HZ.out rfl, HO.out.2⟩
    · have p1 : decide ((p : Int) < (s.size : Int)) = false := decide_eq_false (by omega)
      have p2 : decide (p < s.size) = false := decide_eq_false hlt
      have HZ : Hid (dtd s 4 p0 [] = .inl l) := by show _ = _; rw [← HD.out.2]; unfold dtd; rw [p2]; rfl
      clear hlt
      go_wp2
      refine bodyPost_ret (results_tmp3 rfl _ _ _) rfl ?_
      exact ⟨DtR.yes HZ.out _ rfl (by rw [← HD.out.1]; exact HO.out.1), HO.out.2⟩
end Go.Proofs.YtclpeepnngegaaaGreatDoor
