/-
  The slot that was set last.
-/
import Derived.Test.YtaicmpkgcppplaaRingHelp
namespace Go.Proofs.Ytaicmpkgcppplaa

theorem put_size (a : Act) (d : Option Tmp) (v : Value) : (a.put d v).tmps.size = a.tmps.size := by
  cases d <;> simp [Act.put]
theorem put_last (a : Act) (i : Nat) (v : Value) (h : i < a.tmps.size) : (a.put (some i) v).tmps[i]?.getD undef = v := by
  simp [Act.put, h]
end Go.Proofs.Ytaicmpkgcppplaa
