/-
  The walk of ViewBack: it answers true, and writes nothing that was there.
-/
import Derived.Test.YtebpaolniemfgaaRound
namespace Go.Proofs.Ytebpaolniemfgaa.viewBack
open Go.RowKit

theorem all3 {a b c : List Nat} (ha : ∀ x ∈ a, x < 256) (hb : ∀ x ∈ b, x < 256) (hc : ∀ x ∈ c, x < 256) : ∀ x ∈ a ++ b ++ c, x < 256 := by
  intro x hx
  simp only [List.mem_append] at hx
  rcases hx with (hx | hx) | hx
  · exact ha x hx
  · exact hb x hx
  · exact hc x hx

set_option maxHeartbeats 400000 in
theorem walk (a0 : Option Addr) (len0 cap0 : Nat) (z0 : List Int) (a1 : Option Addr) (len1 cap1 : Nat) (z1 : List Int) (a2 : Option Addr) (len2 cap2 : Nat) (z2 : List Int) (a3 : Option Addr) (len3 cap3 : Nat) (z3 : List Int) (w : World) (w0 : IsRow .i64 w a0 len0 cap0 z0) (w1 : IsRow .i64 w a1 len1 cap1 z1) (w2 : IsRow .u8 w a2 len2 cap2 z2) (w3 : IsRow .u8 w a3 len3 cap3 z3)
    (n0 : cap0 ≤ 1048576) (_n1 : cap1 ≤ 1048576) (n2 : cap2 ≤ 1048576) (n3 : cap3 ≤ 1048576) :
    Calls Try.prog 4 #[.slice a0 len0 cap0, .slice a1 len1 cap1, .slice a2 len2 cap2, .slice a3 len3 cap3] w fun e w' => e = .returned (.bool true) ∧ Below w.heap.size w w' := by
  obtain ⟨ws, rfl, hw, h0, _, _⟩ := w0.seg
  obtain ⟨vs, rfl, hv, h1, _, _⟩ := w1.seg
  obtain ⟨xs, rfl, ha, h2, _, ha256⟩ := w2.bytes
  obtain ⟨bs, rfl, hb, h3, _, hb256⟩ := w3.bytes
  clear w0 w1 w2 w3
  by_cases hok : okW ws = true
  · obtain ⟨wn, rfl, h64, hws, h8⟩ := okW_nat ws hok
    by_cases hlen : vs.length = (toI wn).length
    · rw [toI_len] at hlen
      obtain ⟨n, hn⟩ : ∃ n, M.tot wn = 8 * n := ⟨M.tot wn / 8, by omega⟩
      have hn256 : n ≤ 256 := by have := M.tot_le wn 32 (fun x hx => (hws x hx).2); omega
      by_cases hfit : fitI wn vs wn.length
      · obtain ⟨vn, rfl, hvn, hF⟩ := fitI_nat wn vs hlen hfit
        rw [toI_len] at h0
        rw [toI_len, hvn] at h1
        rw [toI_len wn, toI_len vn, hvn]
        obtain ⟨cs, hcs⟩ : ∃ cs, cs = M.bytesN n (M.packN 0 wn vn) := ⟨_, rfl⟩
        have hcl : cs.length = n := by rw [hcs, M.length_bytesN]
        have hc256 : ∀ x ∈ cs, x < 256 := by rw [hcs]; exact M.bytesN_lt _ _
        have hp1 := fun (W : World) (ad2 : Option Addr) (c2 : Nat) (h1 : Seg .i64 W a0 (toI wn)) (h2 : Seg .i64 W ad2 (toI vn)) => pack_fit a0 ad2 cap0 c2 n wn vn W h1 h2 hvn h64 hws hn hfit
        rw [← hcs] at hp1
        have hfields : M.fieldsN (M.tot wn) (M.numB cs) wn = vn := by
          rw [hcs, M.numB_bytesN]
          obtain ⟨X, hX, e⟩ := M.packN_split 0 wn vn hF
          rw [Nat.zero_mul, Nat.zero_add] at e
          have e2 : (256 : Nat) ^ n = 2 ^ M.tot wn := by rw [hn, Nat.pow_mul]
          rw [e2, Nat.mod_eq_of_lt (by rw [e]; exact hX)]
          exact M.fieldsN_packN 0 wn vn hF
        have hmid : ((xs ++ cs ++ bs).drop xs.length).take n = cs := by
          rw [List.append_assoc, List.drop_left, List.take_append_of_le_length (by omega), List.take_of_length_le (by omega)]
        have hf := fun (W : World) (ad : Option Addr) (cp : Nat) (h1 : Seg .u8 W ad (toI (xs ++ cs ++ bs))) (h2 : Seg .i64 W a0 (toI wn)) (h3 : (xs ++ cs ++ bs).length ≤ cp) (h4 : cp ≤ 9223372036854775807) =>
          fields_ok ad a0 cp cap0 xs.length n (xs ++ cs ++ bs) wn W h1 h2 (all3 ha256 hc256 hb256) h64 hws hn (by simp; omega) h3 h4
        rw [hmid, hfields, toI_map] at hf
        have hjl : (xs ++ cs ++ bs).length = xs.length + n + bs.length := by simp; omega
        rw [hjl] at hf
        have hj := fun (W : World) (ad : Option Addr) (cp : Nat) (h1 : Seg .u8 W a2 (toI xs)) (h2 : Seg .u8 W ad (toI cs)) (h3 : Seg .u8 W a3 (toI bs)) => join_any a2 ad a3 cap2 cp cap3 xs cs bs W h1 h2 h3 (by omega)
        rw [hcl] at hj
        have HP : Hid _ := hp1
        have HF : Hid _ := hf
        have HJ : Hid _ := hj
        have HC : Hid (cs.length = n) := hcl
        have HV : Hid (vn.length = wn.length) := hvn
        clear hp1 hf hj hcs hcl hvn hmid hfields hjl hn hF hfit hlen hok h8
        go_enter Try.func4, Try.ntmps4
        go_wp2_with fail
        refine Calls.mono (HP.out w a1 cap1 hw hv) ?_
        rintro e w1 ⟨ba, bc, rfl, hbs, hb1, hbc, _⟩
        go_wp2_with (first | (go_at_call 10; refine (num_any _ _).mono ?_; rintro e w' ⟨rfl, rfl⟩))
        refine Calls.mono (HJ.out w1 ba bc (ha.old hb1) hbs (hb.old hb1)) ?_
        rintro e w2 ⟨jv, rfl, hjo, hb2⟩
        obtain ⟨ja, jc, rfl, hjs, _, hjc, hjm⟩ := owns_seg hjo
        have hb12 : Below w.heap.size w w2 := hb1.trans (hb2.mono hb1.size)
        have hbs2 := hbs.old hb2
        clear hjo
        go_wp2_with fail
        refine Calls.mono (HF.out w2 ja jc hjs (hw.old hb12) hjc (by unfold maxLen at hjm; omega)) ?_
        rintro e w3 ⟨fv, rfl, hfo, hb3⟩
        obtain ⟨fa, fc, rfl, hfs, _⟩ := owns_seg hfo
        have hb123 : Below w.heap.size w w3 := hb12.trans (hb3.mono hb12.size)
        have hbs3 := hbs2.old hb3
        clear hfo
        go_wp2_with fail
        refine Calls.mono (HP.out w3 fa fc (hw.old hb123) hfs) ?_
        rintro e w4 ⟨ga, gc, rfl, hgs, hb4, _, _⟩
        have hb1234 : Below w.heap.size w w4 := hb123.trans (hb4.mono hb123.size)
        have hbs4 := hbs3.old hb4
        have hfs4 := hfs.old hb4
        go_wp2_with fail
        refine (started_any _).mono ?_
        rintro e w5 ⟨rfl, hb5⟩
        have hb15 : Below w.heap.size w w5 := hb1234.trans (hb5.mono hb1234.size)
        go_wp2_with (first | (go_at_call 10; refine (num_any _ _).mono ?_; rintro e w' ⟨rfl, rfl⟩))
        refine (sameInts_true fa a1 fc cap1 wn.length (toI vn) w5 (hfs4.old hb5) (hv.old hb15) (by rw [toI_len]; exact HV.out) (by omega)).mono ?_
        rintro e w6 ⟨rfl, hb6⟩
        have hb16 : Below w.heap.size w w6 := hb15.trans (hb6.mono hb15.size)
        go_wp2_with (first | (go_at_call 10; refine (num_any _ _).mono ?_; rintro e w' ⟨rfl, rfl⟩))
        refine (same_true ba ga bc gc n cs w6 ((hbs4.old hb5).old hb6) ((hgs.old hb5).old hb6) HC.out hc256).mono ?_
        rintro e w' ⟨rfl, rfl⟩
        go_wp2
        go_ret
        exact ⟨rfl, hb16⟩
      · rw [toI_len] at h0 ⊢
        rw [hlen] at h1 ⊢
        have HU : Hid _ := pack_unfit a0 a1 cap0 cap1 n wn vs w hw hv hlen h64 hws hn hfit
        clear hfit hlen hn hok h8
        go_enter Try.func4, Try.ntmps4
        go_wp2_with fail
        refine Calls.mono HU.out ?_
        rintro e w1 ⟨rfl, hb1⟩
        go_wp2_with (first | (go_at_call 10; refine (num_any _ _).mono ?_; rintro e w' ⟨rfl, rfl⟩))
        refine (started_any _).mono ?_
        rintro e w2 ⟨rfl, hb2⟩
        go_wp2
        go_ret
        exact ⟨rfl, hb1.trans (hb2.mono hb1.size)⟩
    · have HU : Hid _ := pack_arg a0 a1 cap0 vs.length cap1 (toI wn) w hw (by omega) hok hlen
      clear hlen hok h8
      go_enter Try.func4, Try.ntmps4
      go_wp2_with fail
      refine Calls.mono HU.out ?_
      rintro e w' ⟨rfl, rfl⟩
      go_wp2_with (first | (go_at_call 10; refine (num_any _ _).mono ?_; rintro e w' ⟨rfl, rfl⟩))
      refine (started_any _).mono ?_
      rintro e w2 ⟨rfl, hb2⟩
      go_wp2
      go_ret
      exact ⟨rfl, hb2⟩
  · have hbad : okW ws = false := by simpa using hok
    have HU : Hid _ := pack_widths a0 a1 cap0 vs.length cap1 ws w hw (by omega) hbad
    clear hok hbad
    go_enter Try.func4, Try.ntmps4
    go_wp2_with fail
    refine Calls.mono HU.out ?_
    rintro e w' ⟨rfl, rfl⟩
    go_wp2_with (first | (go_at_call 10; refine (num_any _ _).mono ?_; rintro e w' ⟨rfl, rfl⟩))
    refine (started_any _).mono ?_
    rintro e w2 ⟨rfl, hb2⟩
    go_wp2
    go_ret
    exact ⟨rfl, hb2⟩
end Go.Proofs.Ytebpaolniemfgaa.viewBack
