/-
  Pack and Fields, whatever they are handed: what they answer hangs on the numbers alone; append that keeps the shorter row.
-/
import Derived.Test.YtcgfdhmegagjdaaRound
import Derived.Test.YtcgfdhmegagjdaaTotal
import Derived.Test.YtcgfdhmegagjdaaFamStand
namespace Go.Proofs.Ytcgfdhmegagjdaa
open Go.RowKit

theorem pack_det (ws vs : List Int) (hlen : ws.length ≤ 9223372036854775807) : ∃ (L : List Nat) (er : Int), L.length ≤ 256 ∧ (∀ x ∈ L, x < 256) ∧ ∀ (ad ad2 : Option Addr) (len cap len2 cap2 : Nat) (w : World), ws.length = len → vs.length = len2 → Seg .i64 w ad ws → Seg .i64 w ad2 vs →
    Calls Try.prog 12 #[.slice ad len cap, .slice ad2 len2 cap2] w fun e w' => ∃ a c, e = .returned (.tuple #[.slice a L.length c, .int .i64 er]) ∧ w'.ownsRow w.heap.size 5 1 (.slice a L.length c) L.length ((toI L).map (Value.int .u8)) ∧ Below w.heap.size w w' := by
  cases hok : okW ws with
  | false =>
    refine ⟨[], 11, by simp, by simp, ?_⟩
    intro ad ad2 len cap len2 cap2 w h1 h2 hs hs2
    subst h1 h2
    refine (pack_widths ad ad2 cap _ cap2 ws w hs hlen hok).mono ?_
    rintro e w' ⟨rfl, rfl⟩
    exact ⟨none, 0, rfl, World.ownsRow_nil _ _ _ _, Below.refl _ _⟩
  | true =>
    by_cases hne : vs.length = ws.length
    · obtain ⟨wn, rfl, h64, hws, htot⟩ := okW_nat ws hok
      obtain ⟨n, hn⟩ : ∃ n, M.tot wn = 8 * n := ⟨M.tot wn / 8, by omega⟩
      have hn256 : n ≤ 256 := by
        have : M.tot wn ≤ 32 * wn.length := by
          clear hn htot hok hlen hne h64
          induction wn with
          | nil => simp [M.tot]
          | cons x l ih =>
            rw [M.tot_cons]
            have := hws x (by simp)
            have := ih (fun y hy => hws y (by simp [hy]))
            simp; omega
        omega
      have hvl : vs.length = wn.length := by rw [hne, toI_len]
      by_cases hf : fitI wn vs wn.length
      · refine ⟨M.bytesN n (vOf wn vs wn.length), 0, by rw [M.length_bytesN]; exact hn256, M.bytesN_lt _ _, ?_⟩
        intro ad ad2 len cap len2 cap2 w h1 h2 hs hs2
        rw [toI_len] at h1
        subst h1
        have h2' : len2 = wn.length := by omega
        subst h2'
        refine (pack_any ad ad2 cap cap2 n wn vs w hs hs2 hvl h64 hws hn).mono ?_
        rintro e w' ⟨v, er, rfl, hb, h | h⟩
        · obtain ⟨_, rfl, hown⟩ := h
          rw [bytesV, toI_map] at hown
          obtain ⟨a, c, rfl⟩ := owns_shape hown
          rw [M.length_bytesN]
          exact ⟨a, c, rfl, hown, hb⟩
        · exact absurd hf h.1
      · refine ⟨[], 12, by simp, by simp, ?_⟩
        intro ad ad2 len cap len2 cap2 w h1 h2 hs hs2
        rw [toI_len] at h1
        subst h1
        have h2' : len2 = wn.length := by omega
        subst h2'
        refine (pack_any ad ad2 cap cap2 n wn vs w hs hs2 hvl h64 hws hn).mono ?_
        rintro e w' ⟨v, er, rfl, hb, h | h⟩
        · exact absurd h.1 hf
        · obtain ⟨_, rfl, rfl⟩ := h
          exact ⟨none, 0, rfl, World.ownsRow_nil _ _ _ _, hb⟩
    · refine ⟨[], 1, by simp, by simp, ?_⟩
      intro ad ad2 len cap len2 cap2 w h1 h2 hs hs2
      subst h1 h2
      refine (pack_arg ad ad2 cap _ cap2 ws w hs hlen hok hne).mono ?_
      rintro e w' ⟨rfl, rfl⟩
      exact ⟨none, 0, rfl, World.ownsRow_nil _ _ _ _, Below.refl _ _⟩
theorem fV_len (bs : List Nat) (at' : Int) (ws : List Int) : (fV bs at' ws).length ≤ 64 := by
  unfold fV
  split
  · rename_i h
    have hok := ((fE_zero _ _ _).1 h).1
    obtain ⟨wn, rfl, h64, _, _⟩ := okW_nat ws hok
    rw [M.length_fieldsN]
    simpa [toI] using h64
  · simp
theorem owns_shorter {w : World} {B g n m cap : Nat} {e : TypeId} {xs ys : List Value} (h : w.ownsRow B e 1 (.slice (some ⟨g, 0, none⟩) (n + m) cap) (n + m) (xs ++ ys)) (hx : xs.length = n) : w.ownsRow B e 1 (.slice (some ⟨g, 0, none⟩) n cap) n xs := by
  refine ⟨by omega, .inr ?_⟩
  rcases h.2 with ⟨h1, _⟩ | ⟨g', cap', cur, h1, hb, hh, hn, hc, hs, ht⟩
  · simp at h1
  · simp only [Value.slice.injEq, Option.some.injEq, Addr.mk.injEq, and_true, true_and] at h1
    obtain ⟨rfl, rfl⟩ := h1
    refine ⟨g, cap, cur, rfl, hb, hh, by omega, hc, hs, ?_⟩
    have := congrArg (List.take n) ht
    rw [List.take_take, List.take_left' hx] at this
    rw [Nat.mul_one]
    rwa [Nat.mul_one, Nat.min_eq_left (by omega)] at this
/-- 'append(v, x...)' to a row of one's own: the shorter row stays -/
theorem append_keep {P : Program} {w : World} {ops : Array Oper} {rest : List Oper} {o : Oper} {a : Act} {Q : Exit → Act → World → Prop} (hgd : o.guard = none) (s x : Operand) (t : TypeId)
    (ho : o.op = .call { callee := .builtin .append, args := #[s, x], argTypes := #[t, t] })
    (base : Nat) (e : TypeId) (i : TypeInfo) (z : Value) (bytes : Nat) (ht : P.underlying t = some (.slice e)) (hi : P.info? e = some i) (hz : i.zero = some z)
    (hsize : i.size = 1) (hby : i.bytes = bytes) (hzs : z.cells.size = 1)
    (v : Value) (n : Nat) (xs : List Value) (hs : a.eval s = v) (hown : w.ownsRow base e 1 v n xs)
    (ad : Addr) (m c : Nat) (news : List Value) (hx : a.eval x = .slice (some ad) m c) (hl : news.length = m * 1) (hnews : ∀ j u, news[j]? = some u → w.cell? (ad.add j) = some u) (h1 : ∀ u ∈ news, u.oneCell' = true)
    (h63 : n + m ≤ maxLen) (hbytes : (n + m) * bytes ≤ 140737488355328) (hbase : base ≤ w.heap.size)
    (h : ∀ v' w', w'.ownsRow base e 1 v' (n + m) (xs ++ news) → w'.ownsRow base e 1 v n xs → Ch (fun x => v.ownBlock = some x) w w' → (∀ q, v'.ownBlock = some q → v.ownBlock = some q ∨ w.heap.size ≤ q) → wpList P ops Q rest (a.put o.dst v') w') : wpList P ops Q (o :: rest) a w := by
  rcases hown.2 with ⟨rfl, rfl⟩ | ⟨g, cap, cur, rfl, hbg, hg, hnc, hcm, hcs, htake⟩
  · have hx0 : xs = [] := List.eq_nil_of_length_eq_zero (by simpa using hown.1)
    subst hx0
    refine wpList_append_own_at w hgd s x t ho w.heap.size e i z 1 bytes ht hi hz hsize hby hzs (by decide) (.slice none 0 0) 0 [] hs (World.ownsRow_nil _ _ _ _) ad m c news hx hl hnews h1 h63 hbytes (Nat.le_refl _) ?_
    intro v' w' r1 r2 _ _
    exact h v' w' (owns_le r1 hbase) (World.ownsRow_nil _ _ _ _) ((Ch.ofGrown r2).mono (fun _ _ e => by cases e)) (fun q hq => .inr (r1.lt q hq).1)
  · by_cases hroom : n + m ≤ cap
    · refine wpList_append_own_spare w hgd s x t ho base e i 1 ht hi hsize g n cap xs hs hown ad m c news hx hl hnews h1 hroom ?_
      intro w' r1 r2
      exact h _ w' r1 (owns_shorter r1 (by have := hown.1; omega)) ((Ch.ofGrown r2).mono (fun x _ e => by simpa [Value.ownBlock] using e)) (fun q hq => .inl (by simpa [Value.ownBlock] using hq))
    · refine wpList_plain hgd fun K hK => ?_
      obtain ⟨v', w', hrun, r1, r2⟩ := run_append_arg_grows (P := P) w t o.type e i z 1 bytes ht hi hz hsize hby hzs (by decide) ⟨g, 0, none⟩ n cap xs hown.1 (hown.cells rfl) ad m c news hl hnews (by omega) h63 hbytes
      unfold Oper.wp
      simp [execOp, ho, resolve, invoke, builtin, hs, hx, hrun, Result.andThen]
      exact hK _ _ (h v' w' (owns_le r1 hbase) ((Ch.ofGrown r2).owns hown (fun _ _ e => by cases e)) ((Ch.ofGrown r2).mono (fun _ _ e => by cases e)) (fun q hq => .inr (r1.lt q hq).1))
end Go.Proofs.Ytcgfdhmegagjdaa
