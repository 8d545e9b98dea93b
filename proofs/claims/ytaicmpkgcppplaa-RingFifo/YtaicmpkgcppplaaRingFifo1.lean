/-
  What arrived and was sent, held against what the port holds.
-/
import Derived.Test.YtaicmpkgcppplaaRingQueue
namespace Go.Proofs.Ytaicmpkgcppplaa
open Go.RowKit

/-- a byte string that was handed in -/
structure EV where
  a : Option Addr
  c : Nat
  fr : List Nat
def EV.v (e : EV) : Value := .slice e.a e.fr.length e.c
structure EV.ok (w0 wr : World) (gl : Nat) (e : EV) : Prop where
  seg : Seg .u8 wr e.a (toI e.fr)
  h256 : ∀ x ∈ e.fr, x < 256
  low : ∀ x, e.fr ≠ [] → e.a = some x → x.block < w0.heap.size ∨ x.block = gl
/-- the frame in a buffer -/
def frS (s : PS) (i : Nat) : List Nat := (s.da i).take (s.ln i)
structure Fi (w0 wr : World) (P gb gf gr gt p sz gl : Nat) (s : PS) (vc vo : Value) (Lc Lo : List EV) : Prop where
  at' : At w0 wr P gb gf gr gt p sz s
  qc : Qu wr w0.heap.size vc (Lc.map EV.v)
  qo : Qu wr w0.heap.size vo (Lo.map EV.v)
  ne : ∀ g, vc.ownBlock = some g → vo.ownBlock ≠ some g
  ec : ∀ e ∈ Lc, EV.ok w0 wr gl e
  eo : ∀ e ∈ Lo, EV.ok w0 wr gl e
  gl1 : ¬ PB P gb gf gr gt s gl
  gl2 : gl < wr.heap.size
  gl3 : w0.heap.size ≤ gl
  nc : ∀ g, vc.ownBlock = some g → g ≠ gl ∧ ¬ PB P gb gf gr gt s g
  no : ∀ g, vo.ownBlock = some g → g ≠ gl ∧ ¬ PB P gb gf gr gt s g
variable {w0 wr w' : World} {P gb gf gr gt p sz gl : Nat} {s s' : PS} {vc vo : Value} {Lc Lo : List EV}
theorem EV.ok.ch {S : Nat → Prop} {e : EV} (h : EV.ok w0 wr gl e) (k : Ch S wr w') (h1 : ∀ q, q < w0.heap.size → ¬ S q) (h2 : ¬ S gl) : EV.ok w0 w' gl e :=
  ⟨k.seg h.seg (fun x hx e1 => by
    have hne : e.fr ≠ [] := fun h0 => hx (by rw [h0]; rfl)
    rcases h.low x hne e1 with h3 | h3
    · exact h1 _ h3
    · rw [h3]; exact h2), h.h256, h.low⟩
theorem Qu.ltw {w : World} {base : Nat} {v : Value} {L : List Value} (h : Qu w base v L) (g : Nat) (hg : v.ownBlock = some g) : g < w.heap.size := by
  obtain ⟨_, c, hc⟩ := h.lt g hg
  exact (Array.getElem?_eq_some_iff.1 hc).1
/-- a call of the port's: what is known of the two lists stands -/
theorem Fi.played (h : Fi w0 wr P gb gf gr gt p sz gl s vc vo Lc Lo) (k : Played wr w' P gb gf gr gt s s') : Fi w0 w' P gb gf gr gt p sz gl s' vc vo Lc Lo := by
  have hlow : ∀ q, q < w0.heap.size → ¬ PB P gb gf gr gt s q := fun q hq hp => by have := h.at'.blk q hp; omega
  have hnew : ∀ q, q < wr.heap.size → ¬ PB P gb gf gr gt s q → ¬ PB P gb gf gr gt s' q := fun q hq hn hp => by
    rcases k.blk q hp with h1 | h1
    · exact hn h1
    · omega
  exact ⟨h.at'.next k, h.qc.ch k.ch (fun g hg => (h.nc g hg).2), h.qo.ch k.ch (fun g hg => (h.no g hg).2), h.ne, fun e he => (h.ec e he).ch k.ch hlow h.gl1, fun e he => (h.eo e he).ch k.ch hlow h.gl1, hnew gl h.gl2 h.gl1, Nat.lt_of_lt_of_le h.gl2 k.ch.size, h.gl3,
    fun g hg => ⟨(h.nc g hg).1, hnew g (h.qc.ltw g hg) (h.nc g hg).2⟩, fun g hg => ⟨(h.no g hg).1, hnew g (h.qo.ltw g hg) (h.no g hg).2⟩⟩
theorem Fi.below (h : Fi w0 wr P gb gf gr gt p sz gl s vc vo Lc Lo) (hb : Below wr.heap.size wr w') : Fi w0 w' P gb gf gr gt p sz gl s vc vo Lc Lo := h.played (.none h.at'.port h.at'.inv hb)
/-- what the port holds is what came, and what was sent -/
structure Mt (s : PS) (Lc Lo : List EV) : Prop where
  mc : (s.rx.take s.filled).map (frS s) = Lc.map EV.fr
  mo : s.tx.map (frS s) = Lo.map EV.fr
theorem Mt.clen (h : Mt s Lc Lo) (hi : PInv s) : Lc.length = s.filled := by
  have h1 := congrArg List.length h.mc
  have h2 := hi.fl
  simp at h1
  omega
theorem Mt.olen (h : Mt s Lc Lo) : Lo.length = s.tx.length := by
  have h1 := congrArg List.length h.mo
  simp at h1
  omega
theorem Mt.clen' (h : Mt s Lc Lo) (k : Fi w0 wr P gb gf gr gt p sz gl s vc vo Lc Lo) : Lc.length ≤ 100000 := by
  have h1 := h.clen k.at'.inv
  have h2 := k.at'.inv.fl
  obtain ⟨_, _, l⟩ := k.at'.port.lr
  have h3 := l.ql
  have h4 := l.nb
  omega
theorem Mt.olen' (h : Mt s Lc Lo) (k : Fi w0 wr P gb gf gr gt p sz gl s vc vo Lc Lo) : Lo.length ≤ 100000 := by
  have h1 := h.olen
  obtain ⟨_, _, l⟩ := k.at'.port.lt
  have h3 := l.ql
  have h4 := l.nb
  omega
/-- what the lists' own memory is turned to leaves the rest -/
theorem Fi.outs {S : Nat → Prop} (h : Fi w0 wr P gb gf gr gt p sz gl s vc vo Lc Lo) (k : Ch S wr w') (hS : ∀ q, S q → (vc.ownBlock = some q ∨ vo.ownBlock = some q)) : At w0 w' P gb gf gr gt p sz s ∧ (∀ e ∈ Lc, EV.ok w0 w' gl e) ∧ (∀ e ∈ Lo, EV.ok w0 w' gl e) := by
  have hPB : ∀ q, PB P gb gf gr gt s q → ¬ S q := fun q hq hs => by
    rcases hS q hs with h1 | h1
    · exact (h.nc q h1).2 hq
    · exact (h.no q h1).2 hq
  have hb : ∀ q, S q → w0.heap.size ≤ q := fun q hs => by
    rcases hS q hs with h1 | h1
    · exact (h.qc.lt q h1).1
    · exact (h.qo.lt q h1).1
  have hl : ∀ q, q < w0.heap.size → ¬ S q := fun q hq hs => by have := hb q hs; omega
  have hg : ¬ S gl := fun hs => by
    rcases hS gl hs with h1 | h1
    · exact (h.nc gl h1).1 rfl
    · exact (h.no gl h1).1 rfl
  exact ⟨⟨h.at'.port.ch k hPB, h.at'.inv, h.at'.pool, h.at'.size, h.at'.bel.trans (k.below hb h.at'.bel.size), h.at'.blk⟩, fun e he => (h.ec e he).ch k hl hg, fun e he => (h.eo e he).ch k hl hg⟩
/-- came = append(came, e) -/
theorem Fi.came (h : Fi w0 wr P gb gf gr gt p sz gl s vc vo Lc Lo) {v' : Value} (e : EV) (he : EV.ok w0 wr gl e) (hq : Qu w' w0.heap.size v' (Lc.map EV.v ++ [e.v])) (k : Ch (fun q => vc.ownBlock = some q) wr w') (hv : ∀ q, v'.ownBlock = some q → vc.ownBlock = some q ∨ wr.heap.size ≤ q) : Fi w0 w' P gb gf gr gt p sz gl s v' vo (Lc ++ [e]) Lo := by
  obtain ⟨a1, a2, a3⟩ := h.outs k (fun q e => .inl e)
  have hl : ∀ q, q < w0.heap.size → ¬ vc.ownBlock = some q := fun q hq hs => by have := (h.qc.lt q hs).1; omega
  have hg : ¬ vc.ownBlock = some gl := fun hs => (h.nc gl hs).1 rfl
  refine ⟨a1, by rw [List.map_append]; exact hq, h.qo.ch k (fun g hg e => h.ne g e hg), fun g hg ho => ?_, fun x hx => ?_, a3, h.gl1, Nat.lt_of_lt_of_le h.gl2 k.size, h.gl3, fun g hg => ?_, h.no⟩
  · rcases hv g hg with h1 | h1
    · exact h.ne g h1 ho
    · have := h.qo.ltw g ho; omega
  · rcases List.mem_append.1 hx with h1 | h1
    · exact a2 x h1
    · rw [List.mem_singleton.1 h1]; exact he.ch k hl hg
  · rcases hv g hg with h1 | h1
    · exact h.nc g h1
    · have := h.gl2
      exact ⟨by omega, fun hp => by have := h.at'.old g hp; omega⟩
theorem Fi.out (h : Fi w0 wr P gb gf gr gt p sz gl s vc vo Lc Lo) {v' : Value} (e : EV) (he : EV.ok w0 wr gl e) (hq : Qu w' w0.heap.size v' (Lo.map EV.v ++ [e.v])) (k : Ch (fun q => vo.ownBlock = some q) wr w') (hv : ∀ q, v'.ownBlock = some q → vo.ownBlock = some q ∨ wr.heap.size ≤ q) : Fi w0 w' P gb gf gr gt p sz gl s vc v' Lc (Lo ++ [e]) := by
  obtain ⟨a1, a2, a3⟩ := h.outs k (fun q e => .inr e)
  have hl : ∀ q, q < w0.heap.size → ¬ vo.ownBlock = some q := fun q hq hs => by have := (h.qo.lt q hs).1; omega
  have hg : ¬ vo.ownBlock = some gl := fun hs => (h.no gl hs).1 rfl
  refine ⟨a1, h.qc.ch k (fun g hg e => h.ne g hg e), by rw [List.map_append]; exact hq, fun g hg ho => ?_, a2, fun x hx => ?_, h.gl1, Nat.lt_of_lt_of_le h.gl2 k.size, h.gl3, h.nc, fun g hg => ?_⟩
  · rcases hv g ho with h1 | h1
    · exact h.ne g hg h1
    · have := h.qc.ltw g hg; omega
  · rcases List.mem_append.1 hx with h1 | h1
    · exact a3 x h1
    · rw [List.mem_singleton.1 h1]; exact he.ch k hl hg
  · rcases hv g hg with h1 | h1
    · exact h.no g h1
    · have := h.gl2
      exact ⟨by omega, fun hp => by have := h.at'.old g hp; omega⟩
theorem frS_other (s : PS) (i b j : Nat) (fr : List Nat) (h : j ≠ i) : frS (s.arrived i b fr) j = frS s j := by
  show (updF s.da i _ j).take (updF s.ln i _ j) = _
  rw [updF_other _ _ _ h, updF_other _ _ _ h]; rfl
theorem frS_same (s : PS) (i b : Nat) (fr : List Nat) : frS (s.arrived i b fr) i = fr := by
  show (updF s.da i _ i).take (updF s.ln i _ i) = _
  rw [updF_same, updF_same]
  exact List.take_left
theorem map_other {s s' : PS} (l : List Nat) (i : Nat) (hi : i ∉ l) (h : ∀ j, j ≠ i → frS s' j = frS s j) : l.map (frS s') = l.map (frS s) := List.map_congr_left (fun j hj => h j (fun e => hi (e ▸ hj)))
theorem Mt.arrive (h : Mt s Lc Lo) (hi : PInv s) (hk : s.filled < s.rx.length) (b : Nat) (e : EV) : Mt (s.arrived s.rx[s.filled] b e.fr) (Lc ++ [e]) Lo := by
  obtain ⟨mc, mo⟩ := h
  have hnd := hi.nd
  have hrx : s.rx.Nodup := (List.nodup_append.1 (List.nodup_append.1 hnd).2.1).1
  have h1 : s.rx[s.filled] ∉ s.rx.take s.filled := fun hm => by
    have hd : s.rx[s.filled] ∈ s.rx.drop s.filled := (List.drop_eq_getElem_cons hk) ▸ List.mem_cons_self
    have hnd2 : (s.rx.take s.filled ++ s.rx.drop s.filled).Nodup := by rw [List.take_append_drop]; exact hrx
    exact (List.nodup_append.1 hnd2).2.2 _ hm _ hd rfl
  have h2 : s.rx[s.filled] ∉ s.tx := fun hm => (List.nodup_append.1 (List.nodup_append.1 hnd).2.1).2.2 _ (List.getElem_mem hk) _ hm rfl
  refine ⟨?_, ?_⟩
  · show (s.rx.take (s.filled + 1)).map (frS (s.arrived s.rx[s.filled] b e.fr)) = _
    rw [List.take_succ_eq_append_getElem hk, List.map_append, map_other _ _ h1 (fun j hj => frS_other s _ b j e.fr hj), mc]
    simp only [List.map_cons, List.map_nil, List.map_append]
    rw [frS_same]
  · show s.tx.map (frS (s.arrived s.rx[s.filled] b e.fr)) = _
    rw [map_other _ _ h2 (fun j hj => frS_other s _ b j e.fr hj), mo]
theorem Mt.same (h : Mt s Lc Lo) (h1 : s'.rx.take s'.filled = s.rx.take s.filled) (h2 : s'.tx = s.tx) (h3 : ∀ i, frS s' i = frS s i) : Mt s' Lc Lo :=
  ⟨by rw [h1, show frS s' = frS s from funext h3]; exact h.mc, by rw [h2, show frS s' = frS s from funext h3]; exact h.mo⟩
theorem Mt.refill (h : Mt s Lc Lo) (hi : PInv s) (k : Nat) : Mt (s.refilled k) Lc Lo :=
  h.same (by show (s.rx ++ s.fr.take k).take s.filled = _; exact List.take_append_of_le_length hi.fl) rfl (fun _ => rfl)
/-- Poll: the first that came is the window's -/
theorem Mt.poll {e : EV} (h : Mt s (e :: Lc) Lo) {m i b : Nat} {rest : List Nat} (hm : s.filled = m + 1) (hx : s.rx = i :: rest) : Mt (s.polled i b rest m) Lc Lo ∧ frS s i = e.fr := by
  have h1 := h.mc
  rw [hx, hm, List.take_succ_cons, List.map_cons, List.map_cons] at h1
  obtain ⟨h2, h3⟩ := List.cons.inj h1
  exact ⟨⟨h3, h.mo⟩, h2⟩
theorem Mt.send (h : Mt s Lc Lo) (k : Nat) (e : EV) (he : frS s k = e.fr) : Mt { s with pl := updF s.pl k 5, ln := updF s.ln k (s.ln k), tx := s.tx ++ [k] } Lc (Lo ++ [e]) := by
  have hf : frS { s with pl := updF s.pl k 5, ln := updF s.ln k (s.ln k), tx := s.tx ++ [k] } = frS s := by
    funext i
    show (s.da i).take (updF s.ln k (s.ln k) i) = _
    rw [updF_id]; rfl
  refine ⟨by rw [hf]; exact h.mc, ?_⟩
  rw [hf]
  show (s.tx ++ [k]).map (frS s) = _
  rw [List.map_append, h.mo, List.map_append]
  simp [he]
theorem Mt.drain {e : EV} (h : Mt s Lc (e :: Lo)) {i b : Nat} {rest : List Nat} (hx : s.tx = i :: rest) : Mt (s.drained i b rest) Lc Lo ∧ frS s i = e.fr := by
  have h1 := h.mo
  rw [hx, List.map_cons, List.map_cons] at h1
  obtain ⟨h2, h3⟩ := List.cons.inj h1
  exact ⟨⟨h.mc, h3⟩, h2⟩
/-- came = came[1:] -/
theorem Fi.ctail {e : EV} {vc' : Value} (h : Fi w0 wr P gb gf gr gt p sz gl s vc vo (e :: Lc) Lo) (hq : Qu wr w0.heap.size vc' (Lc.map EV.v)) (hb : vc'.ownBlock = vc.ownBlock) : Fi w0 wr P gb gf gr gt p sz gl s vc' vo Lc Lo :=
  ⟨h.at', hq, h.qo, fun g hg => h.ne g (by rw [← hb]; exact hg), fun x hx => h.ec x (List.mem_cons_of_mem _ hx), h.eo, h.gl1, h.gl2, h.gl3, fun g hg => h.nc g (by rw [← hb]; exact hg), h.no⟩
theorem Fi.otail {e : EV} {vo' : Value} (h : Fi w0 wr P gb gf gr gt p sz gl s vc vo Lc (e :: Lo)) (hq : Qu wr w0.heap.size vo' (Lo.map EV.v)) (hb : vo'.ownBlock = vo.ownBlock) : Fi w0 wr P gb gf gr gt p sz gl s vc vo' Lc Lo :=
  ⟨h.at', h.qc, hq, fun g hg => by rw [hb]; exact h.ne g hg, h.ec, fun x hx => h.eo x (List.mem_cons_of_mem _ hx), h.gl1, h.gl2, h.gl3, h.nc, fun g hg => h.no g (by rw [← hb]; exact hg)⟩
end Go.Proofs.Ytaicmpkgcppplaa
