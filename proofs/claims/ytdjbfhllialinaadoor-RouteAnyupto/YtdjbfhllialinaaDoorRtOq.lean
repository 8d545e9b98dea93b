/-
  Layer 14: lists of routes and of addresses that came in.
-/
import Derived.Test.YtdjbfhllialinaaDoorRtOp
import Derived.Test.YtdjbfhllialinaaDoorRtGl
import Derived.Test.YtdjbfhllialinaaDoorRtFi
namespace Go.Proofs.YtdjbfhllialinaaDoor
open Go.RowKit Go.ChangeShapes Go.WideShapes

theorem Tryd.cellsIP' : Tryd.prog.cellsOf 25 = 17 := by kernel_rfl
theorem Tryd.cellsPf' : Tryd.prog.cellsOf 27 = 18 := by kernel_rfl
theorem Tryd.cellsRt' : Tryd.prog.cellsOf 29 = 36 := by kernel_rfl
section
variable {H : Type} {enc : TypeId × Value → H} {W : World}
set_option maxRecDepth 100000 in
theorem open_ipw {fuel : Nat} {cs : List Value} {x : DataW H × List MemPlace} (hf : DataW.trod enc Tryd.prog W 0 (fun _ => true) true fuel 25 cs = some x) : ∃ (V : Int) (y : Nat → Nat), cs = (ipCells V y).toList ∧ (Lit.int .i64 V).wf = true ∧ ∀ i, y i < 256 := by
  obtain ⟨xs, n, _, hx, hl, hlen, hfs⟩ := DataW.trod_struct Tryd.underlying25 hf
  rw [Tryd.cellsIP'] at hl
  have f0 : DataW.trod enc Tryd.prog W 0 (fun _ => true) true n 3 ((cs.drop 0).take (Tryd.prog.cellsOf 3)) = xs[0]? := hfs 0 _ rfl
  have f1 : DataW.trod enc Tryd.prog W 0 (fun _ => true) true n 23 ((cs.drop 1).take (Tryd.prog.cellsOf 23)) = xs[1]? := hfs 1 _ rfl
  have hxl : xs.length = 2 := hlen
  rw [Tryd.cellsI'] at f0
  rw [Tryd.cellsA'] at f1
  match cs, hl with
  | c0 :: r, hsz =>
    have hr : r.length = 16 := by simpa using hsz
    rw [List.getElem?_eq_getElem (by omega)] at f0 f1
    simp only [List.drop_zero, List.drop_succ_cons, List.take_succ_cons, List.take_zero] at f0 f1
    obtain ⟨V, e0, _, wV⟩ := DataW.trod_int Tryd.underlying3 f0
    simp only [List.cons.injEq, and_true] at e0
    rw [List.take_of_length_le (by omega)] at f1
    obtain ⟨ys, m, _, _, _, hyl, hel⟩ := DataW.trod_array Tryd.underlying23 f1
    have hb : ∀ i, i < 16 → ∃ a : Nat, a < 256 ∧ r[i]? = some (.int .u8 (a : Int)) := by
      intro i hi
      have h1 := hel i hi
      rw [Tryd.cellsB', Nat.mul_one, List.getElem?_eq_getElem (by omega), List.drop_eq_getElem_cons (show i < r.length by omega), List.take_succ_cons, List.take_zero] at h1
      obtain ⟨a, e1, _, wa⟩ := DataW.trod_int Tryd.underlying5 h1
      simp only [List.cons.injEq, and_true] at e1
      simp [Lit.wf, IntKind.min, IntKind.max, IntKind.bits, IntKind.signed] at wa
      refine ⟨a.toNat, by omega, ?_⟩
      rw [List.getElem?_eq_getElem (show i < r.length by omega), e1]
      congr 2
      omega
    refine ⟨V, fun i => match r[i]? with | some (.int _ a) => a.toNat | _ => 0, ?_, wV, fun i => ?_⟩
    rotate_left
    · by_cases hi : i < 16
      · obtain ⟨a, hlt, ha⟩ := hb i hi
        simp only [ha]
        omega
      · have hn : r[i]? = none := List.getElem?_eq_none (by omega)
        simp [hn]
    rw [ipCells_eq, e0]
    congr 1
    apply List.ext_getElem?
    intro i
    by_cases hi : i < 16
    · obtain ⟨a, _, ha⟩ := hb i hi
      rw [ha]
      simp [hi, ha]
    · rw [List.getElem?_eq_none (by omega), List.getElem?_eq_none (by simp; omega)]
theorem pf_split : ∀ l : List Value, l.length = 18 → l = (l.drop 0).take 17 ++ (l.drop 17).take 1
  | [_, _, _, _, _, _, _, _, _, _, _, _, _, _, _, _, _, _], _ => rfl
theorem rt_split (l : List Value) (h : l.length = 36) : l = (l.drop 0).take 18 ++ ((l.drop 18).take 1 ++ (l.drop 19).take 17) := by
  apply List.ext_getElem?
  intro i
  rw [List.drop_zero]
  by_cases h1 : i < 18
  · rw [List.getElem?_append_left (by simp; omega), List.getElem?_take, if_pos h1]
  · rw [List.getElem?_append_right (by simp; omega), List.length_take, h, show min 18 36 = 18 from rfl]
    by_cases h2 : i < 19
    · rw [List.getElem?_append_left (by simp; omega), List.getElem?_take, if_pos (by omega), List.getElem?_drop, show 18 + (i - 18) = i by omega]
    · rw [List.getElem?_append_right (by simp; omega), List.length_take, List.length_drop, h, show min 1 (36 - 18) = 1 from rfl]
      by_cases h3 : i < 36
      · rw [List.getElem?_take, if_pos (by omega), List.getElem?_drop, show 19 + (i - 18 - 1) = i by omega]
      · rw [List.getElem?_eq_none (by omega), List.getElem?_eq_none (by simp; omega)]
set_option maxRecDepth 100000 in
theorem open_pfw {fuel : Nat} {l : List Value} {x : DataW H × List MemPlace} (hf : DataW.trod enc Tryd.prog W 0 (fun _ => true) true fuel 27 l = some x) : ∃ p : PV, l = (pfC p).toList ∧ p.Wf := by
  obtain ⟨xs, n, _, hx, hl, hlen, hfs⟩ := DataW.trod_struct Tryd.underlying27 hf
  rw [Tryd.cellsPf'] at hl
  have hxl : xs.length = 2 := hlen
  have f0 : DataW.trod enc Tryd.prog W 0 (fun _ => true) true n 25 ((l.drop 0).take (Tryd.prog.cellsOf 25)) = xs[0]? := hfs 0 _ rfl
  have f1 : DataW.trod enc Tryd.prog W 0 (fun _ => true) true n 3 ((l.drop 17).take (Tryd.prog.cellsOf 3)) = xs[1]? := hfs 1 _ rfl
  rw [Tryd.cellsIP'] at f0
  rw [Tryd.cellsI'] at f1
  rw [List.getElem?_eq_getElem (by omega)] at f0 f1
  obtain ⟨V, y, e0, wV, hy⟩ := open_ipw f0
  obtain ⟨k, e1, _, wk⟩ := DataW.trod_int Tryd.underlying3 f1
  refine ⟨⟨V, y, k⟩, ?_, wV, wk, fun i _ => hy i⟩
  rw [pf_split l hl, e0, e1]
  rfl
set_option maxRecDepth 100000 in
theorem open_rtw {fuel : Nat} {l : List Value} {x : DataW H × List MemPlace} (hf : DataW.trod enc Tryd.prog W 0 (fun _ => true) true fuel 29 l = some x) : ∃ r : RV, l = rcL r ∧ ROk r := by
  obtain ⟨xs, n, _, hx, hl, hlen, hfs⟩ := DataW.trod_struct Tryd.underlying29 hf
  rw [Tryd.cellsRt'] at hl
  have hxl : xs.length = 3 := hlen
  have f0 : DataW.trod enc Tryd.prog W 0 (fun _ => true) true n 27 ((l.drop 0).take (Tryd.prog.cellsOf 27)) = xs[0]? := hfs 0 _ rfl
  have f1 : DataW.trod enc Tryd.prog W 0 (fun _ => true) true n 3 ((l.drop 18).take (Tryd.prog.cellsOf 3)) = xs[1]? := hfs 1 _ rfl
  have f2 : DataW.trod enc Tryd.prog W 0 (fun _ => true) true n 25 ((l.drop 19).take (Tryd.prog.cellsOf 25)) = xs[2]? := hfs 2 _ rfl
  rw [Tryd.cellsPf'] at f0
  rw [Tryd.cellsI'] at f1
  rw [Tryd.cellsIP'] at f2
  rw [List.getElem?_eq_getElem (by omega)] at f0 f1 f2
  obtain ⟨p, e0, hp⟩ := open_pfw f0
  obtain ⟨k, e1, _, _⟩ := DataW.trod_int Tryd.underlying3 f1
  obtain ⟨U, y, e2, _, hy⟩ := open_ipw f2
  refine ⟨⟨p, k, U, y⟩, ?_, hp, fun i _ => hy i⟩
  rw [rt_split l hl, e0, e1, e2]
  rfl
theorem open_rts {fuel : Nat} {a : Option Addr} {len cap : Nat} {d : DataW H} {p : List MemPlace} (hf : DataW.trod enc Tryd.prog W 0 (fun _ => true) true fuel 22 [.slice a len cap] = some (d, p)) (hb : Rows.uptoBulk d ≤ 1048576) :
    ∃ rs : List RV, rs.length = len ∧ ListG 36 rcL ROk W a rs ∧ len ≤ 1048576 :=
  open_list 36 rcL ROk Tryd.underlying22 Tryd.cellsRt' (by decide) rcL_len (fun _ _ _ h _ => open_rtw h) hf hb
theorem open_ips {fuel : Nat} {a : Option Addr} {len cap : Nat} {d : DataW H} {p : List MemPlace} (hf : DataW.trod enc Tryd.prog W 0 (fun _ => true) true fuel 30 [.slice a len cap] = some (d, p)) (hb : Rows.uptoBulk d ≤ 1048576) :
    ∃ rs : List IV, rs.length = len ∧ ListG 17 ivC IOk W a rs ∧ len ≤ 1048576 :=
  open_list 17 ivC IOk Tryd.underlying30 Tryd.cellsIP' (by decide) ivC_len (fun _ _ _ h _ => by
    obtain ⟨V, y, e, wV, hy⟩ := open_ipw h
    exact ⟨⟨V, y⟩, e, wV, fun i _ => hy i⟩) hf hb
end
end Go.Proofs.YtdjbfhllialinaaDoor
