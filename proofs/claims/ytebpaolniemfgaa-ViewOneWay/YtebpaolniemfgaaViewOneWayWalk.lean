/-
  The walk of ViewOneWay: it answers true, whatever it is handed, and writes nothing that was there.
-/
import Derived.Test.YtebpaolniemfgaaRound
namespace Go.Proofs.Ytebpaolniemfgaa.viewOneWay
open Go.RowKit

theorem walk (a0 : Option Addr) (len0 cap0 : Nat) (z0 : List Int) (a1 : Int) (a2 : Option Addr) (len2 cap2 : Nat) (z2 : List Int) (w : World) (w0 : IsRow .u8 w a0 len0 cap0 z0) (w1 : (Lit.int .i64 a1).wf = true) (w2 : IsRow .i64 w a2 len2 cap2 z2) :
    Calls Try.prog 3 #[.slice a0 len0 cap0, .int .i64 a1, .slice a2 len2 cap2] w fun e w' => e = .returned (.bool true) ∧ Below w.heap.size w w' := by
  obtain ⟨bs, rfl, hb, h1, h2, h256⟩ := w0.bytes
  obtain ⟨ws, rfl, hw, h3, h4, _⟩ := w2.seg
  have ha : a1 ≤ 9223372036854775807 := by
    simp [Lit.wf, IntKind.min, IntKind.max, IntKind.bits, IntKind.signed] at w1
    omega
  clear w0 w1 w2
  by_cases hok : okW ws = true
  · by_cases hout : a1 < 0 ∨ (bs.length : Int) < a1 + sumI ws / 8
    · go_enter Try.func3, Try.ntmps3
      go_wp2_with fail
      refine (fields_out a0 a2 bs.length cap0 cap2 a1 ws w hw (by omega) hok h1 h2 ha hout).mono ?_
      rintro e w1 ⟨rfl, hb1⟩
      clear hout
      go_wp2_with (first | (go_at_call 10; refine (num_any _ _).mono ?_; rintro e w' ⟨rfl, rfl⟩))
      refine (started_any _).mono ?_
      rintro e w2 ⟨rfl, hb2⟩
      go_wp2
      go_ret
      exact ⟨rfl, hb1.trans (hb2.mono hb1.size)⟩
    · obtain ⟨wn, rfl, h64, hws, h8⟩ := okW_nat ws hok
      rw [sumI_toI] at hout
      obtain ⟨n, hn⟩ : ∃ n, M.tot wn = 8 * n := ⟨M.tot wn / 8, by omega⟩
      obtain ⟨k, rfl⟩ : ∃ k : Nat, a1 = (k : Int) := ⟨a1.toNat, by omega⟩
      have hin : k + n ≤ bs.length := by omega
      obtain ⟨cs, hcs⟩ : ∃ cs, cs = (bs.drop k).take n := ⟨_, rfl⟩
      have hcl : cs.length = n := by rw [hcs]; simp; omega
      have hc256 : ∀ x ∈ cs, x < 256 := by rw [hcs]; exact fun x hx => h256 x (List.mem_of_mem_drop (List.mem_of_mem_take hx))
      have hcut : Seg .u8 w (a0.map (fun x => x.add k)) (toI cs) := by rw [hcs, ← toI_take, ← toI_drop]; exact hb.part k n (by rw [toI_len]; exact hin)
      rw [toI_len] at h3 ⊢
      have hf := fields_ok a0 a2 cap0 cap2 k n bs wn w hb hw h256 h64 hws hn hin h1 h2
      rw [← hcs] at hf
      have HF : Hid _ := hf
      have HC : Hid (cs.length = n) := hcl
      have HN : Hid (M.tot wn = 8 * n) := hn
      clear hf hcs hcl hn hok h8 hout
      go_enter Try.func3, Try.ntmps3
      go_wp2_with fail
      refine Calls.mono HF.out ?_
      rintro e w1 ⟨v, rfl, hown, hb1⟩
      rw [toI_map] at hown
      obtain ⟨va, vc, rfl, hvs, _⟩ := owns_seg hown
      clear hown HF
      go_wp2_with (first | (go_at_call 10; refine (num_any _ _).mono ?_; rintro e w' ⟨rfl, rfl⟩))
      refine (pack_fields a2 va cap2 vc n wn cs w1 (hw.old hb1) hvs h64 hws HN.out HC.out hc256).mono ?_
      rintro e w2 ⟨ca, cc, rfl, hcs2, hb2, _, _⟩
      go_wp2_with fail
      refine (started_any _).mono ?_
      rintro e w3 ⟨rfl, hb3⟩
      go_wp2_with (first | (go_at_call 10; refine (num_any _ _).mono ?_; rintro e w' ⟨rfl, rfl⟩))
      · have h0 : Seg .u8 w3 a0 (toI cs) := by
          have := HC.out
          exact .inl (by rw [List.eq_nil_of_length_eq_zero (show cs.length = 0 by omega)]; rfl)
        refine (same_true ca a0 cc 0 n cs w3 (hcs2.old hb3) h0 HC.out hc256).mono ?_
        rintro e w' ⟨rfl, rfl⟩
        go_wp2
        go_ret
        exact ⟨rfl, hb1.trans ((hb2.trans (hb3.mono hb2.size)).mono hb1.size)⟩
      · refine (same_true ca _ cc (cap0 - k) n cs w3 (hcs2.old hb3) (hcut.old (hb1.trans ((hb2.trans (hb3.mono hb2.size)).mono hb1.size))) HC.out hc256).mono ?_
        rintro e w' ⟨rfl, rfl⟩
        go_wp2
        go_ret
        exact ⟨rfl, hb1.trans ((hb2.trans (hb3.mono hb2.size)).mono hb1.size)⟩
  · have hbad : okW ws = false := by simpa using hok
    clear hok
    go_enter Try.func3, Try.ntmps3
    go_wp2_with fail
    refine (fields_widths a0 a2 bs.length cap0 cap2 a1 ws w hw (by omega) hbad).mono ?_
    rintro e w1 ⟨rfl, hb1⟩
    go_wp2_with (first | (go_at_call 10; refine (num_any _ _).mono ?_; rintro e w' ⟨rfl, rfl⟩))
    refine (started_any _).mono ?_
    rintro e w2 ⟨rfl, hb2⟩
    go_wp2
    go_ret
    exact ⟨rfl, hb1.trans (hb2.mono hb1.size)⟩
end Go.Proofs.Ytebpaolniemfgaa.viewOneWay
