/-
  The statements' own helper do: a step on a port.
-/
import Derived.Test.YtaicmpkgcppplaaPort15
namespace Go.Proofs.Ytaicmpkgcppplaa
open Go.RowKit

/-- a port behind some calls -/
structure Played (w w' : World) (P gb gf gr gt : Nat) (s s' : PS) : Prop where
  port : PortAt w' P gb gf gr gt s'
  inv : PInv s'
  pool : s'.pool = s.pool
  size : s'.size = s.size
  rxn : s'.rxn = s.rxn
  txn : s'.txn = s.txn
  ch : Ch (PB P gb gf gr gt s) w w'
  blk : ∀ q, PB P gb gf gr gt s' q → PB P gb gf gr gt s q ∨ w.heap.size ≤ q
variable {w w' w'' : World} {P gb gf gr gt : Nat} {s s' s'' : PS}
theorem Played.none (h : PortAt w P gb gf gr gt s) (hi : PInv s) (hb : Below w.heap.size w w') : Played w w' P gb gf gr gt s s :=
  ⟨h.below hb, hi, rfl, rfl, rfl, rfl, Ch.ofBelow hb, fun _ h => .inl h⟩
theorem Played.trans (h : Played w w' P gb gf gr gt s s') (k : Played w' w'' P gb gf gr gt s' s'') : Played w w'' P gb gf gr gt s s'' :=
  ⟨k.port, k.inv, k.pool.trans h.pool, k.size.trans h.size, k.rxn.trans h.rxn, k.txn.trans h.txn, h.ch.trans k.ch (fun x hx e => (h.blk x e).elim id (fun e => absurd e (by omega))), fun q hq => (k.blk q hq).elim (fun h' => h.blk q h') (fun e => .inr (by have := h.ch.size; omega))⟩
theorem PB.upd {i b n : Nat} (hp : s'.pool = s.pool) (hb : s'.bb = updF s.bb i (some b)) (ho : s.bb i = some b ∨ (s.bb i = none ∧ n ≤ b)) (hi : i < s.pool) : ∀ q, PB P gb gf gr gt s' q → PB P gb gf gr gt s q ∨ n ≤ q := by
  intro q hq
  rcases hq with h | h | h | h | h | ⟨j, hj, hjb⟩
  · exact .inl (.inl h)
  · exact .inl (.inr (.inl h))
  · exact .inl (.inr (.inr (.inl h)))
  · exact .inl (.inr (.inr (.inr (.inl h))))
  · exact .inl (.inr (.inr (.inr (.inr (.inl h)))))
  · rw [hb] at hjb
    by_cases e : j = i
    · subst e
      rw [updF_same] at hjb
      simp only [Option.some.injEq] at hjb
      subst hjb
      rcases ho with h | ⟨_, h⟩
      · exact .inl (.inr (.inr (.inr (.inr (.inr ⟨j, hi, h⟩)))))
      · exact .inr h
    · rw [updF_other _ _ _ e] at hjb
      exact .inl (.inr (.inr (.inr (.inr (.inr ⟨j, by omega, hjb⟩)))))
theorem PB.b {i b n : Nat} (ho : s.bb i = some b ∨ (s.bb i = none ∧ n ≤ b)) (hi : i < s.pool) {x : Nat} (hx : x < n) (e : x = b) : PB P gb gf gr gt s x := by
  rcases ho with h | ⟨_, h⟩
  · exact .inr (.inr (.inr (.inr (.inr ⟨i, hi, by rw [e]; exact h⟩))))
  · omega
theorem hE_nil {i : Int} (h : hE s i = 0) : ∃ k : Nat, i = (k : Int) ∧ k < s.pool ∧ s.pl k = 4 := by
  unfold hE at h
  split at h
  · cases h
  · split at h
    · rename_i h1 h2
      exact ⟨i.toNat, by omega, by omega, h2⟩
    · cases h
theorem refill_t (h : PortAt w P gb gf gr gt s) (hi : PInv s) (n : Int) :
    Calls Try.prog 10 #[.pointer (some ⟨P, 0, none⟩), .int .i64 n] w fun e w' => ∃ k : Nat, k = min n.toNat (min s.fr.length (s.rxn - s.rx.length)) ∧ e = .returned (.int .i64 (k : Int)) ∧ Played w w' P gb gf gr gt s (s.refilled k) := by
  refine (Refill_any w P gb gf gr gt s h n hi.frlt).mono ?_
  rintro e w' ⟨k, hk, rfl, hp, hc⟩
  exact ⟨k, hk, rfl, hp, hi.refill k (by omega), rfl, rfl, rfl, rfl, hc.mono (fun x _ e => e.elim (fun e => .inl e) (fun e => e.elim (fun e => .inr (.inl e)) (fun e => .inr (.inr (.inr (.inl e)))))), fun q hq => .inl hq⟩
theorem arrive_t (h : PortAt w P gb gf gr gt s) (hi : PInv s) (a : Option Addr) (c : Nat) (fr : List Nat) (hseg : Seg .u8 w a (toI fr)) (h256 : ∀ x ∈ fr, x < 256) (hap : ∀ x, fr ≠ [] → a = some x → x.block ≠ P ∧ x.block ≠ gb) :
    Calls Try.prog 12 #[.pointer (some ⟨P, 0, none⟩), .slice a fr.length c] w fun e w' => e = .returned (.int .i64 (aE s fr.length)) ∧ ((aE s fr.length ≠ 0 ∧ Below w.heap.size w w') ∨ (aE s fr.length = 0 ∧ ∃ (hk : s.filled < s.rx.length) (b : Nat), Played w w' P gb gf gr gt s (s.arrived s.rx[s.filled] b fr))) := by
  by_cases he : aE s fr.length = 0
  · have he' := he
    unfold aE at he'
    split at he'
    · cases he'
    · split at he'
      · cases he'
      · split at he'
        · cases he'
        · rename_i h1 h2 h3
          have hfl := hi.fl
          have hk : s.filled < s.rx.length := by omega
          have hlt := hi.rxlt _ (List.getElem_mem hk)
          refine (Arrive_yes w P gb gf gr gt s h a c fr hseg h256 hap (by omega) hk hlt).mono ?_
          rintro e w' ⟨b, rfl, hp, hc, ho⟩
          rw [he]
          exact ⟨rfl, .inr ⟨rfl, hk, b, hp, hi.arrive hk (by omega), rfl, rfl, rfl, rfl, hc.mono (fun x hx e => e.elim (fun e => .inl e) (fun e => e.elim (fun e => .inr (.inl e)) (fun e => PB.b ho hlt hx e))), PB.upd rfl rfl ho hlt⟩⟩
  · refine (Arrive_no w P gb gf gr gt s h a fr.length c he).mono ?_
    rintro e w' ⟨rfl, hb⟩
    exact ⟨rfl, .inl ⟨he, hb⟩⟩
theorem poll_t (h : PortAt w P gb gf gr gt s) (hi : PInv s) :
    Calls Try.prog 13 #[.pointer (some ⟨P, 0, none⟩)] w fun e w' => (s.filled = 0 ∧ e = .returned (.tuple #[.int .i64 0, .slice none 0 0, .bool false]) ∧ w = w') ∨
      ∃ (m i b : Nat) (rest : List Nat), s.filled = m + 1 ∧ s.rx = i :: rest ∧ i < s.pool ∧ e = .returned (.tuple #[.int .i64 i, .slice (some ⟨b, 0, none⟩) (s.ln i) (s.ln i), .bool true]) ∧ (s.bb i = some b ∨ (s.bb i = none ∧ w.heap.size ≤ b)) ∧ Played w w' P gb gf gr gt s (s.polled i b rest m) := by
  by_cases hf : s.filled = 0
  · refine (Poll_no w P gb gf gr gt s h hf).mono ?_
    rintro e w' ⟨rfl, rfl⟩
    exact .inl ⟨hf, rfl, rfl⟩
  · have hfl := hi.fl
    have hql : s.rx.length ≤ 100000 := by obtain ⟨_, _, l⟩ := h.lr; have := l.ql; have := l.nb; omega
    cases hx : s.rx with
    | nil => rw [hx] at hfl; simp at hfl; omega
    | cons i rest =>
      have hlt := hi.rxlt i (by rw [hx]; simp)
      refine (Poll_yes w P gb gf gr gt s h (s.filled - 1) i rest (by omega) (by omega) hx hlt (hi.ln i hlt)).mono ?_
      rintro e w' ⟨b, rfl, hp, hc, ho⟩
      exact .inr ⟨s.filled - 1, i, b, rest, by omega, rfl, hlt, rfl, ho, hp, hi.poll hx (by omega), rfl, rfl, rfl, rfl, hc.mono (fun x hx e => e.elim (fun e => .inl e) (fun e => .inr (.inl e))), PB.upd rfl rfl ho hlt⟩
theorem take_t (h : PortAt w P gb gf gr gt s) (hi : PInv s) :
    Calls Try.prog 21 #[.pointer (some ⟨P, 0, none⟩)] w fun e w' => (s.fr = [] ∧ e = .returned (.tuple #[.int .i64 0, .slice none 0 0, .int .i64 33]) ∧ w = w') ∨
      ∃ (i b : Nat) (rest : List Nat), s.fr = i :: rest ∧ i < s.pool ∧ e = .returned (.tuple #[.int .i64 i, .slice (some ⟨b, 0, none⟩) s.size s.size, .int .i64 0]) ∧ (s.bb i = some b ∨ (s.bb i = none ∧ w.heap.size ≤ b)) ∧ Played w w' P gb gf gr gt s (s.taken i b rest) := by
  cases hx : s.fr with
  | nil =>
    refine (Take_no w P gb gf gr gt s h hx).mono ?_
    rintro e w' ⟨rfl, rfl⟩
    exact .inl ⟨rfl, rfl, rfl⟩
  | cons i rest =>
    have hlt := hi.frlt i (by rw [hx]; simp)
    refine (Take_yes w P gb gf gr gt s h i rest hx hlt).mono ?_
    rintro e w' ⟨b, rfl, hp, hc, ho⟩
    exact .inr ⟨i, b, rest, rfl, hlt, rfl, ho, hp, hi.take hx, rfl, rfl, rfl, rfl, hc.mono (fun x hx e => e.elim (fun e => .inl e) (fun e => e.elim (fun e => .inr (.inl e)) (fun e => PB.b ho hlt hx e))), PB.upd rfl rfl ho hlt⟩
theorem PInv.bbs (h : PInv s) (bb : Nat → Option Nat) : PInv { s with bb := bb } := ⟨h.nd, h.lt, h.fl, h.p1, h.p2, h.p3, h.p5, h.pr, h.ln⟩
theorem buffer_t (h : PortAt w P gb gf gr gt s) (hi : PInv s) (i : Int) :
    Calls Try.prog 19 #[.pointer (some ⟨P, 0, none⟩), .int .i64 i] w fun e w' => (hE s i ≠ 0 ∧ e = .returned (.tuple #[.slice none 0 0, .int .i64 (hE s i)]) ∧ w = w') ∨
      ∃ (k b : Nat), i = (k : Int) ∧ hE s i = 0 ∧ k < s.pool ∧ s.pl k = 4 ∧ e = .returned (.tuple #[.slice (some ⟨b, 0, none⟩) s.size s.size, .int .i64 0]) ∧ (s.bb k = some b ∨ (s.bb k = none ∧ w.heap.size ≤ b)) ∧ Played w w' P gb gf gr gt s { s with bb := updF s.bb k (some b) } := by
  by_cases he : hE s i = 0
  · obtain ⟨k, rfl, hk, h4⟩ := hE_nil he
    refine (Buffer_yes w P gb gf gr gt s h k hk h4).mono ?_
    rintro e w' ⟨b, rfl, hp, hc, ho⟩
    exact .inr ⟨k, b, rfl, he, hk, h4, rfl, ho, hp, hi.bbs _, rfl, rfl, rfl, rfl, hc.mono (fun x hx e => .inr (.inl e)), PB.upd rfl rfl ho hk⟩
  · refine (Buffer_no w P gb gf gr gt s h i he).mono ?_
    rintro e w' ⟨rfl, rfl⟩
    exact .inl ⟨he, rfl, rfl⟩
theorem release_t (h : PortAt w P gb gf gr gt s) (hi : PInv s) (i : Int) :
    Calls Try.prog 16 #[.pointer (some ⟨P, 0, none⟩), .int .i64 i] w fun e w' => e = .returned (.int .i64 (hE s i)) ∧ ((hE s i ≠ 0 ∧ w = w') ∨
      ∃ k : Nat, i = (k : Int) ∧ hE s i = 0 ∧ k < s.pool ∧ s.pl k = 4 ∧ Played w w' P gb gf gr gt s { s with pl := updF s.pl k 1, fr := s.fr ++ [k] }) := by
  by_cases he : hE s i = 0
  · obtain ⟨k, rfl, hk, h4⟩ := hE_nil he
    refine (Release_yes w P gb gf gr gt s h k hk h4 (hi.room hk (by omega))).mono ?_
    rintro e w' ⟨rfl, hp, hc⟩
    exact ⟨by rw [he], .inr ⟨k, rfl, he, hk, h4, hp, hi.release hk h4, rfl, rfl, rfl, rfl, hc.mono (fun x hx e => e.elim (fun e => .inl e) (fun e => e.elim (fun e => .inr (.inl e)) (fun e => .inr (.inr (.inl e))))), fun q hq => .inl hq⟩⟩
  · refine (Release_no w P gb gf gr gt s h i he).mono ?_
    rintro e w' ⟨rfl, rfl⟩
    exact ⟨rfl, .inl ⟨he, rfl⟩⟩
theorem sE_zero {i n : Int} (h : sE s i n = 0) : ∃ k m : Nat, i = (k : Int) ∧ n = (m : Int) ∧ k < s.pool ∧ s.pl k = 4 ∧ m ≤ s.size ∧ s.tx.length ≠ s.txn := by
  unfold sE at h
  split at h
  · cases h
  · rename_i hn
    split at h
    · rename_i he
      split at h
      · cases h
      · rename_i ht
        obtain ⟨k, rfl, hk, h4⟩ := hE_nil he
        exact ⟨k, n.toNat, rfl, by omega, hk, h4, by omega, ht⟩
    · rename_i he; exact absurd h he
theorem send_t (h : PortAt w P gb gf gr gt s) (hi : PInv s) (i n : Int) :
    Calls Try.prog 15 #[.pointer (some ⟨P, 0, none⟩), .int .i64 i, .int .i64 n] w fun e w' => e = .returned (.int .i64 (sE s i n)) ∧ ((sE s i n ≠ 0 ∧ Below w.heap.size w w') ∨
      ∃ k m : Nat, i = (k : Int) ∧ n = (m : Int) ∧ sE s i n = 0 ∧ k < s.pool ∧ s.pl k = 4 ∧ m ≤ s.size ∧ Played w w' P gb gf gr gt s { s with pl := updF s.pl k 5, ln := updF s.ln k m, tx := s.tx ++ [k] }) := by
  by_cases he : sE s i n = 0
  · obtain ⟨k, m, rfl, rfl, hk, h4, hm, ht⟩ := sE_zero he
    have hq : s.tx.length ≤ s.txn := by obtain ⟨_, _, l⟩ := h.lt; exact l.ql
    refine (Send_yes w P gb gf gr gt s h k m hk h4 hm (by omega)).mono ?_
    rintro e w' ⟨rfl, hp, hc⟩
    exact ⟨by rw [he], .inr ⟨k, m, rfl, rfl, he, hk, h4, hm, hp, hi.send hk h4 hm, rfl, rfl, rfl, rfl, hc.mono (fun x hx e => e.elim (fun e => .inl e) (fun e => e.elim (fun e => .inr (.inl e)) (fun e => .inr (.inr (.inr (.inr (.inl e))))))), fun q hq => .inl hq⟩⟩
  · refine (Send_no w P gb gf gr gt s h i n he).mono ?_
    rintro e w' ⟨rfl, hb⟩
    exact ⟨rfl, .inl ⟨he, hb⟩⟩
theorem drain_t (h : PortAt w P gb gf gr gt s) (hi : PInv s) :
    Calls Try.prog 17 #[.pointer (some ⟨P, 0, none⟩)] w fun e w' => (s.tx = [] ∧ e = .returned (.tuple #[.slice none 0 0, .bool false]) ∧ w = w') ∨
      ∃ (i g b : Nat) (rest : List Nat), s.tx = i :: rest ∧ i < s.pool ∧ e = .returned (.tuple #[.slice (some ⟨g, 0, none⟩) (s.ln i) (s.ln i), .bool true]) ∧ w'.ownsRow w.heap.size 5 1 (.slice (some ⟨g, 0, none⟩) (s.ln i) (s.ln i)) (s.ln i) ((toI ((s.da i).take (s.ln i))).map (Value.int .u8)) ∧ g ≠ b ∧ (s.bb i = some b ∨ (s.bb i = none ∧ w.heap.size ≤ b)) ∧ Played w w' P gb gf gr gt s (s.drained i b rest) := by
  cases hx : s.tx with
  | nil =>
    refine (Drain_no w P gb gf gr gt s h hx).mono ?_
    rintro e w' ⟨rfl, rfl⟩
    exact .inl ⟨rfl, rfl, rfl⟩
  | cons i rest =>
    have hlt := hi.txlt i (by rw [hx]; simp)
    have h5 : s.pl i = 5 := (hi.p5 i hlt).2 (by rw [hx]; simp)
    refine (Drain_yes w P gb gf gr gt s h i rest hx hlt (hi.ln i hlt) (hi.room hlt (by omega))).mono ?_
    rintro e w' ⟨g, b, rfl, ho, hp, hc, hb, hg⟩
    exact .inr ⟨i, g, b, rest, rfl, hlt, rfl, ho, hg, hb, hp, hi.drain hx, rfl, rfl, rfl, rfl, hc.mono (fun x hx e => e.elim (fun e => .inl e) (fun e => e.elim (fun e => .inr (.inl e)) (fun e => .inr (.inr (.inl e))))), PB.upd rfl rfl hb hlt⟩
end Go.Proofs.Ytaicmpkgcppplaa
