/-
  A datagram of version 4 as a value; whether it may be, what is written, what is read, what a hop leaves: in numbers. No program here.
-/
import Derived.Test.YtfoeepbndfnifaaDoorI4Math
namespace Go.Proofs.YtfoeepbndfnifaaDoor.I4

structure H4 where
  tos : Int
  id : Int
  df : Bool
  mf : Bool
  off : Int
  ttl : Int
  proto : Int
  sv : Int
  sx : Nat → Nat
  dv : Int
  dx : Nat → Nat
  os : List (Int × List Nat)
  data : List Nat
def okO (o : Int × List Nat) : Bool := decide (2 ≤ o.1) && decide (o.1 ≤ 255) && decide (o.2.length ≤ 38)
def natO (o : Int × List Nat) : OV := (o.1.toNat, o.2)
def flatI (l : List (Int × List Nat)) : List Nat := flatO (l.map natO)
def putOk (l : List (Int × List Nat)) : Bool := l.all okO && decide ((flatI l).length ≤ 40)
def putO (l : List (Int × List Nat)) : List Nat := if putOk l then pad4 (flatI l) else []
def four (v : Int) (x : Nat → Nat) : Bool := decide (v = 4) && (List.range 12).all (fun i => decide (x (4 + i) = 0))
theorem four_iff (v : Int) (x : Nat → Nat) : four v x = true ↔ v = 4 ∧ ∀ i, i < 16 → 4 ≤ i → x i = 0 := by
  simp only [four, Bool.and_eq_true, decide_eq_true_eq, List.all_eq_true, List.mem_range]
  refine and_congr_right (fun _ => ⟨fun h i h1 h2 => ?_, fun h i hi => h (4 + i) (by omega) (by omega)⟩)
  have := h (i - 4) (by omega)
  rwa [show 4 + (i - 4) = i by omega] at this
def within (v m : Int) : Bool := decide (0 ≤ v) && decide (v ≤ m)
def fieldsOk (h : H4) : Bool := within h.tos 255 && within h.id 65535 && within h.off 65528 && decide (h.off % 8 = 0) && within h.ttl 255 && within h.proto 255 && four h.sv h.sx && four h.dv h.dx
def fragOk (mf : Bool) (off : Int) (n : Nat) : Bool := !(mf && (decide (n = 0) || decide (n % 8 ≠ 0))) && decide (off + n ≤ 65515)
def chk (h : H4) : Nat :=
  if !fieldsOk h then 68 else if !putOk h.os then 65 else if 65535 < 20 + (putO h.os).length + h.data.length then 63 else if !fragOk h.mf h.off h.data.length then 66 else 0
def wordOf (h : H4) : Nat := (if h.df then 16384 else 0) + (if h.mf then 8192 else 0) + h.off.toNat / 8
/-- the header without its options -/
def hlist (h : H4) (hd tl s : Nat) : List Nat :=
  [64 + hd / 4, h.tos.toNat, tl / 256, tl % 256, h.id.toNat / 256, h.id.toNat % 256, wordOf h / 256, wordOf h % 256, h.ttl.toNat, h.proto.toNat, s / 256, s % 256,
    h.sx 0, h.sx 1, h.sx 2, h.sx 3, h.dx 0, h.dx 1, h.dx 2, h.dx 3]
def serHd (h : H4) : Nat := 20 + (putO h.os).length
def serTl (h : H4) : Nat := serHd h + h.data.length
def serSum (h : H4) : Nat := 65535 - S.fold (S.wv false (hlist h (serHd h) (serTl h) 0 ++ putO h.os))
def ser (h : H4) : List Nat := hlist h (serHd h) (serTl h) (serSum h) ++ (putO h.os ++ h.data)

def hdL (b : List Nat) : Nat := b.getD 0 0 % 16 * 4
def tlL (b : List Nat) : Nat := b.getD 2 0 * 256 + b.getD 3 0
def optB (b : List Nat) : List Nat := (b.drop 20).take (hdL b - 20)
def dataB (b : List Nat) : List Nat := (b.drop (hdL b)).take (tlL b - hdL b)
def ipx (b : List Nat) (at' : Nat) : Nat → Nat := fun i => if i < 4 then b.getD (at' + i) 0 else 0
def opsB (b : List Nat) : List Op4 := (scan (optB b) 0).getD []
def intO (o : OV) : Int × List Nat := ((o.1 : Int), o.2)
def pH (b : List Nat) : H4 :=
  { tos := (b.getD 1 0 : Nat), id := (b.getD 4 0 * 256 + b.getD 5 0 : Nat), df := decide (b.getD 6 0 / 64 % 2 = 1), mf := decide (b.getD 6 0 / 32 % 2 = 1)
    off := ((b.getD 6 0 % 32 * 256 + b.getD 7 0) * 8 : Nat), ttl := (b.getD 8 0 : Nat), proto := (b.getD 9 0 : Nat), sv := 4, sx := ipx b 12, dv := 4, dx := ipx b 16
    os := (opsB b).map (fun o => intO (ov (optB b) o)), data := dataB b }
def pE (b : List Nat) : Nat :=
  if 65535 < b.length then 2 else if b.length < 20 then 60 else if b.getD 0 0 / 16 ≠ 4 then 61 else if hdL b < 20 ∨ b.length < hdL b then 62 else if tlL b < hdL b ∨ b.length < tlL b then 63
  else if S.fold (S.wv false (b.take (hdL b))) ≠ 65535 then 64 else if scan (optB b) 0 = none then 65 else if !fragOk (pH b).mf (pH b).off (tlL b - hdL b) then 66 else 0
/-- what a datagram that is read is like -/
structure Taken (b : List Nat) : Prop where
  le : b.length ≤ 65535
  ver : b.getD 0 0 / 16 = 4
  hd : 20 ≤ hdL b
  hd2 : hdL b ≤ tlL b
  tl : tlL b ≤ b.length
  good : S.fold (S.wv false (b.take (hdL b))) = 65535
  opt : scan (optB b) 0 = some (opsB b)
  frag : fragOk (pH b).mf (pH b).off (tlL b - hdL b) = true
theorem pE_zero (b : List Nat) : pE b = 0 ↔ Taken b := by
  unfold pE
  constructor
  · intro h
    split at h; · omega
    split at h; · omega
    split at h; · omega
    split at h; · omega
    split at h; · omega
    split at h; · omega
    split at h; · omega
    split at h; · omega
    rename_i h1 h2 h3 h4 h5 h6 h7 h8
    refine ⟨by omega, by omega, by omega, by omega, by omega, by omega, ?_, by simpa using h8⟩
    cases e : scan (optB b) 0 with
    | none => exact absurd e h7
    | some l => simp [opsB, e]
  · rintro ⟨h1, h2, h3, h4, h5, h6, h7, h8⟩
    rw [if_neg (by omega), if_neg (by omega), if_neg (by omega), if_neg (by omega), if_neg (by omega), if_neg (by omega), if_neg (by rw [h7]; simp), if_neg (by simp [h8])]

/-- the same datagram -/
structure Eqv (g h : H4) : Prop where
  tos : g.tos = h.tos
  id : g.id = h.id
  df : g.df = h.df
  mf : g.mf = h.mf
  off : g.off = h.off
  ttl : g.ttl = h.ttl
  proto : g.proto = h.proto
  sv : g.sv = h.sv
  sx : ∀ i, i < 16 → g.sx i = h.sx i
  dv : g.dv = h.dv
  dx : ∀ i, i < 16 → g.dx i = h.dx i
  os : g.os = h.os
  data : g.data = h.data
theorem ser_eqv {g h : H4} (e : Eqv g h) : ser g = ser h := by
  have e1 : ∀ a b c, hlist g a b c = hlist h a b c := by
    intro a b c
    simp only [hlist, wordOf, e.tos, e.id, e.df, e.mf, e.off, e.ttl, e.proto, e.sx 0 (by omega), e.sx 1 (by omega), e.sx 2 (by omega), e.sx 3 (by omega), e.dx 0 (by omega), e.dx 1 (by omega), e.dx 2 (by omega), e.dx 3 (by omega)]
  simp only [ser, serSum, serTl, serHd, e1, e.os, e.data]
theorem four_eqv {v u : Int} {x y : Nat → Nat} (e : v = u) (hx : ∀ i, i < 16 → x i = y i) : four v x = four u y := by
  subst e
  rw [Bool.eq_iff_iff, four_iff, four_iff]
  refine and_congr_right (fun _ => ⟨fun h i hi h4 => ?_, fun h i hi h4 => ?_⟩)
  · rw [← hx i hi]; exact h i hi h4
  · rw [hx i hi]; exact h i hi h4
theorem chk_eqv {g h : H4} (e : Eqv g h) : chk g = chk h := by
  have h1 : fieldsOk g = fieldsOk h := by simp only [fieldsOk, e.tos, e.id, e.off, e.ttl, e.proto, four_eqv e.sv e.sx, four_eqv e.dv e.dx]
  unfold chk
  rw [h1, e.os, e.data, e.mf, e.off]

structure May (h : H4) : Prop where
  tos : 0 ≤ h.tos ∧ h.tos ≤ 255
  id : 0 ≤ h.id ∧ h.id ≤ 65535
  off : 0 ≤ h.off ∧ h.off ≤ 65528 ∧ h.off % 8 = 0
  ttl : 0 ≤ h.ttl ∧ h.ttl ≤ 255
  proto : 0 ≤ h.proto ∧ h.proto ≤ 255
  src : h.sv = 4 ∧ ∀ i, i < 16 → 4 ≤ i → h.sx i = 0
  dst : h.dv = 4 ∧ ∀ i, i < 16 → 4 ≤ i → h.dx i = 0
  opt : putOk h.os = true
  tot : 20 + (putO h.os).length + h.data.length ≤ 65535
  frag : fragOk h.mf h.off h.data.length = true
theorem chk_zero (h : H4) : chk h = 0 ↔ May h := by
  have hf : fieldsOk h = true ↔ ((0 ≤ h.tos ∧ h.tos ≤ 255) ∧ (0 ≤ h.id ∧ h.id ≤ 65535) ∧ (0 ≤ h.off ∧ h.off ≤ 65528 ∧ h.off % 8 = 0) ∧ (0 ≤ h.ttl ∧ h.ttl ≤ 255) ∧ (0 ≤ h.proto ∧ h.proto ≤ 255) ∧ (h.sv = 4 ∧ ∀ i, i < 16 → 4 ≤ i → h.sx i = 0) ∧ (h.dv = 4 ∧ ∀ i, i < 16 → 4 ≤ i → h.dx i = 0)) := by
    simp only [fieldsOk, within, Bool.and_eq_true, decide_eq_true_eq, four_iff]
    constructor
    · rintro ⟨⟨⟨⟨⟨⟨⟨a, b⟩, c⟩, d⟩, e⟩, f⟩, g⟩, k⟩; exact ⟨a, b, ⟨c.1, c.2, d⟩, e, f, g, k⟩
    · rintro ⟨a, b, ⟨c1, c2, d⟩, e, f, g, k⟩; exact ⟨⟨⟨⟨⟨⟨⟨a, b⟩, c1, c2⟩, d⟩, e⟩, f⟩, g⟩, k⟩
  unfold chk
  constructor
  · intro hh
    split at hh; · omega
    split at hh; · omega
    split at hh; · omega
    split at hh; · omega
    rename_i h1 h2 h3 h4
    obtain ⟨a, b, c, d, e, f, g⟩ := hf.1 (by simpa using h1)
    exact ⟨a, b, c, d, e, f, g, by simpa using h2, by omega, by simpa using h4⟩
  · rintro ⟨a, b, c, d, e, f, g, o, t, fr⟩
    have := hf.2 ⟨a, b, c, d, e, f, g⟩
    rw [if_neg (by simp [this]), if_neg (by simp [o]), if_neg (by omega), if_neg (by simp [fr])]

theorem put_len (l : List (Int × List Nat)) : (putO l).length ≤ 40 ∧ (putO l).length % 4 = 0 := by
  unfold putO
  split
  · rename_i h
    simp only [putOk, Bool.and_eq_true, decide_eq_true_eq] at h
    rw [pad4_len]; omega
  · simp
theorem natO_intO (l : List OV) : (l.map intO).map natO = l := by
  rw [List.map_map]
  conv => rhs; rw [← List.map_id l]
  apply List.map_congr_left
  intro o _
  simp [natO, intO]
theorem intO_natO (l : List (Int × List Nat)) (h : l.all okO = true) : (l.map natO).map intO = l := by
  rw [List.map_map]
  conv => rhs; rw [← List.map_id l]
  apply List.map_congr_left
  intro o ho
  have := List.all_eq_true.1 h o ho
  simp only [okO, Bool.and_eq_true, decide_eq_true_eq] at this
  obtain ⟨k, d⟩ := o
  simp [natO, intO]
  omega

/-- the head's word without the sum -/
theorem hlist_wv (h : H4) (hd tl s : Nat) : S.wv false (hlist h hd tl s) = S.wv false (hlist h hd tl 0) + s := by
  simp only [hlist, S.wv]
  omega
theorem wv_app_even (l m : List Nat) (h : l.length % 2 = 0) : S.wv false (l ++ m) = S.wv false l + S.wv false m := by
  rw [S.wv_append]
  simp [S.par, h]
theorem hlist_len (h : H4) (hd tl s : Nat) : (hlist h hd tl s).length = 20 := rfl

theorem word_lt (h : H4) (m : May h) : wordOf h < 32768 := by
  have := m.off
  unfold wordOf
  split <;> split <;> omega
theorem hd_bounds (h : H4) : 20 ≤ serHd h ∧ serHd h ≤ 60 ∧ serHd h % 4 = 0 := by
  have := put_len h.os
  unfold serHd; omega
theorem ser_len (h : H4) : (ser h).length = serTl h := by simp [ser, hlist_len, serTl, serHd]; omega
theorem ser_at (h : H4) (i : Nat) (hi : i < 20) : (ser h).getD i 0 = (hlist h (serHd h) (serTl h) (serSum h)).getD i 0 := getD_app1 _ _ _ hi
theorem ser_hd (h : H4) : hdL (ser h) = serHd h := by
  have := hd_bounds h
  unfold hdL
  rw [ser_at h 0 (by omega)]
  simp [hlist]; omega
theorem ser_tl (h : H4) (m : May h) : tlL (ser h) = serTl h := by
  have := m.tot
  unfold tlL
  rw [ser_at h 2 (by omega), ser_at h 3 (by omega)]
  simp [hlist, serTl, serHd]; omega
theorem ser_drop (h : H4) : (ser h).drop 20 = putO h.os ++ h.data := by
  unfold ser
  rw [List.drop_append_of_le_length (by rw [hlist_len]; omega), List.drop_eq_nil_of_le (by rw [hlist_len]; omega), List.nil_append]
theorem ser_opt (h : H4) : optB (ser h) = putO h.os := by
  unfold optB
  rw [ser_hd, ser_drop, show serHd h - 20 = (putO h.os).length by simp [serHd]]
  simp
theorem ser_data (h : H4) (m : May h) : dataB (ser h) = h.data := by
  unfold dataB
  rw [ser_hd, ser_tl h m, show serTl h - serHd h = h.data.length by simp [serTl], show serHd h = 20 + (putO h.os).length from rfl, ← List.drop_drop, ser_drop]
  simp
theorem ser_head (h : H4) : (ser h).take (serHd h) = hlist h (serHd h) (serTl h) (serSum h) ++ putO h.os := by
  unfold ser
  rw [← List.append_assoc, List.take_append_of_le_length (by simp [hlist_len, serHd]), List.take_of_length_le (by simp [hlist_len, serHd])]
theorem ser_good (h : H4) : S.fold (S.wv false ((ser h).take (serHd h))) = 65535 := by
  rw [ser_head, wv_app_even _ _ (by rw [hlist_len]), hlist_wv]
  have : S.wv false (hlist h (serHd h) (serTl h) 0) + serSum h + S.wv false (putO h.os) = S.wv false (hlist h (serHd h) (serTl h) 0 ++ putO h.os) + serSum h := by
    rw [wv_app_even _ _ (by rw [hlist_len])]; omega
  rw [this]
  exact S.own_good _
theorem ser_scan (h : H4) (m : May h) : ∃ l, scan (putO h.os) 0 = some l ∧ l.map (fun o => intO (ov (putO h.os) o)) = h.os := by
  have ho := m.opt
  have hall : h.os.all okO = true := by simp only [putOk, Bool.and_eq_true] at ho; exact ho.1
  obtain ⟨l, h1, h2⟩ := scan_flat (h.os.map natO) [] ((4 - (flatI h.os).length % 4) % 4) (by
    intro o hh
    obtain ⟨x, hx, rfl⟩ := List.mem_map.1 hh
    have := List.all_eq_true.1 hall x hx
    simp only [okO, Bool.and_eq_true, decide_eq_true_eq] at this
    simp only [natO]; omega)
  have e : putO h.os = [] ++ (flatO (h.os.map natO) ++ List.replicate ((4 - (flatI h.os).length % 4) % 4) 0) := by
    rw [putO, if_pos ho]; rfl
  rw [← e] at h1 h2
  refine ⟨l, h1, ?_⟩
  show l.map (intO ∘ ov (putO h.os)) = _
  rw [← List.map_map, h2, intO_natO _ hall]
theorem off_word (h : H4) (m : May h) (D : Nat) (hD : D = wordOf h) : D % 8192 = h.off.toNat / 8 ∧ (D / 16384 % 2 = 1 ↔ h.df = true) ∧ (D / 8192 % 2 = 1 ↔ h.mf = true) := by
  have h1 := m.off
  subst hD
  unfold wordOf
  cases h.df <;> cases h.mf <;> simp <;> omega
theorem ser_eq (h : H4) (m : May h) : Eqv (pH (ser h)) h := by
  have hw := word_lt h m
  obtain ⟨w1, w2, w3⟩ := off_word h m _ rfl
  have a : ∀ i, i < 20 → (ser h).getD i 0 = (hlist h (serHd h) (serTl h) (serSum h)).getD i 0 := ser_at h
  obtain ⟨l, l1, l2⟩ := ser_scan h m
  refine ⟨?_, ?_, ?_, ?_, ?_, ?_, ?_, m.src.1.symm, ?_, m.dst.1.symm, ?_, ?_, ser_data h m⟩
  · show (((ser h).getD 1 0 : Nat) : Int) = _
    rw [a 1 (by omega)]
    have := m.tos
    simp [hlist]; omega
  · show ((_ : Nat) : Int) = _
    rw [a 4 (by omega), a 5 (by omega)]
    have := m.id
    simp [hlist]; omega
  · show decide _ = _
    rw [a 6 (by omega), Bool.eq_iff_iff, decide_eq_true_eq, ← w2]
    simp [hlist]; omega
  · show decide _ = _
    rw [a 6 (by omega), Bool.eq_iff_iff, decide_eq_true_eq, ← w3]
    simp [hlist]; omega
  · show ((_ : Nat) : Int) = _
    rw [a 6 (by omega), a 7 (by omega)]
    have := m.off
    simp [hlist]; omega
  · show ((_ : Nat) : Int) = _
    rw [a 8 (by omega)]
    have := m.ttl
    simp [hlist]; omega
  · show ((_ : Nat) : Int) = _
    rw [a 9 (by omega)]
    have := m.proto
    simp [hlist]; omega
  · intro i hi
    show ipx _ _ i = _
    unfold ipx
    split
    · rename_i h4
      rw [a _ (by omega)]
      have : i = 0 ∨ i = 1 ∨ i = 2 ∨ i = 3 := by omega
      rcases this with rfl | rfl | rfl | rfl <;> rfl
    · exact (m.src.2 i hi (by omega)).symm
  · intro i hi
    show ipx _ _ i = _
    unfold ipx
    split
    · rename_i h4
      rw [a _ (by omega)]
      have : i = 0 ∨ i = 1 ∨ i = 2 ∨ i = 3 := by omega
      rcases this with rfl | rfl | rfl | rfl <;> rfl
    · exact (m.dst.2 i hi (by omega)).symm
  · show (opsB (ser h)).map _ = _
    rw [opsB, ser_opt, l1]
    exact l2
theorem ser_taken (h : H4) (m : May h) : Taken (ser h) := by
  have e := ser_eq h m
  obtain ⟨l, l1, l2⟩ := ser_scan h m
  have hb := hd_bounds h
  refine ⟨?_, ?_, ?_, ?_, ?_, ?_, ?_, ?_⟩
  · rw [ser_len]; exact m.tot
  · rw [ser_at h 0 (by omega)]; simp [hlist]; omega
  · rw [ser_hd]; omega
  · rw [ser_hd, ser_tl h m]; simp [serTl]
  · rw [ser_tl h m, ser_len]; exact Nat.le_refl _
  · rw [ser_hd]; exact ser_good h
  · rw [opsB, ser_opt, l1]; rfl
  · rw [e.mf, e.off, ser_hd, ser_tl h m, show serTl h - serHd h = h.data.length by simp [serTl]]
    exact m.frag
/-- what is read may be -/
theorem Taken.data_len {b : List Nat} (t : Taken b) : (pH b).data.length = tlL b - hdL b := by
  have h1 := t.tl
  have h2 := t.hd2
  show (dataB b).length = _
  simp [dataB]; omega
theorem Taken.opt_len {b : List Nat} (t : Taken b) : (optB b).length = hdL b - 20 := by
  have h1 := t.tl
  have h2 := t.hd2
  simp [optB]; omega
theorem hdL_le (b : List Nat) : hdL b ≤ 60 ∧ hdL b % 4 = 0 := by unfold hdL; omega
theorem optB_256 {b : List Nat} (h : ∀ x ∈ b, x < 256) : ∀ x ∈ optB b, x < 256 := fun x hx => h x (List.mem_of_mem_drop (List.mem_of_mem_take hx))
theorem Taken.flat {b : List Nat} (t : Taken b) (h256 : ∀ x ∈ b, x < 256) : (pH b).os.all okO = true ∧ (flatI (pH b).os).length ≤ hdL b - 20 := by
  obtain ⟨h1, h2⟩ := scan_in (optB b) 0 (opsB b) t.opt (Nat.zero_le _) (optB_256 h256)
  have hl := t.opt_len
  have hh := hdL_le b
  refine ⟨?_, ?_⟩
  · rw [List.all_eq_true]
    intro o ho
    obtain ⟨x, hx, rfl⟩ := List.mem_map.1 ho
    have := h1 x hx
    have h3 : (((optB b).drop x.p).take x.n).length ≤ 38 := by rw [List.length_take]; omega
    have h4 : (2 : Int) ≤ (x.k : Int) := by omega
    have h5 : (x.k : Int) ≤ 255 := by omega
    show (decide ((2 : Int) ≤ (x.k : Int)) && decide ((x.k : Int) ≤ 255) && decide ((((optB b).drop x.p).take x.n).length ≤ 38)) = true
    rw [decide_eq_true h3, decide_eq_true h4, decide_eq_true h5]; rfl
  · have e : flatI (pH b).os = flatO ((opsB b).map (ov (optB b))) := by
      show flatO (((opsB b).map (intO ∘ ov (optB b))).map natO) = _
      rw [← List.map_map (f := ov (optB b)), natO_intO]
    rw [e]; omega
theorem Taken.may {b : List Nat} (t : Taken b) (h256 : ∀ x ∈ b, x < 256) : May (pH b) ∧ (ser (pH b)).length ≤ b.length := by
  obtain ⟨f1, f2⟩ := t.flat h256
  have hh := hdL_le b
  have hd := t.hd
  have g := getD_lt b h256
  have ho : putOk (pH b).os = true := by simp only [putOk, Bool.and_eq_true, decide_eq_true_eq]; exact ⟨f1, by omega⟩
  have hp : (putO (pH b).os).length ≤ hdL b - 20 := by rw [putO, if_pos ho, pad4_len]; omega
  have hdl := t.data_len
  have h1 := t.tl
  have h2 := t.hd2
  have h3 := t.le
  have fr := t.frag
  refine ⟨⟨?_, ?_, ?_, ?_, ?_, ⟨rfl, ?_⟩, ⟨rfl, ?_⟩, ho, by omega, by rw [hdl]; exact fr⟩, ?_⟩
  · have := g 1; show 0 ≤ ((_ : Nat) : Int) ∧ ((_ : Nat) : Int) ≤ 255; omega
  · have := g 4; have := g 5; show 0 ≤ ((_ : Nat) : Int) ∧ ((_ : Nat) : Int) ≤ 65535; omega
  · have := g 6; have := g 7; show 0 ≤ ((_ : Nat) : Int) ∧ ((_ : Nat) : Int) ≤ 65528 ∧ ((_ : Nat) : Int) % 8 = 0; omega
  · have := g 8; show 0 ≤ ((_ : Nat) : Int) ∧ ((_ : Nat) : Int) ≤ 255; omega
  · have := g 9; show 0 ≤ ((_ : Nat) : Int) ∧ ((_ : Nat) : Int) ≤ 255; omega
  · intro i _ h4; show ipx _ _ i = 0; simp [ipx]; omega
  · intro i _ h4; show ipx _ _ i = 0; simp [ipx]; omega
  · rw [ser_len]; simp only [serTl, serHd]; omega
end Go.Proofs.YtfoeepbndfnifaaDoor.I4
