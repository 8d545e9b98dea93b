/-
  DERIVED. GIVEN WITH THE SEED: THE CARDS: each row of YtdjbfhllialinaaDoorRows.lean that lists a variable, with what it lists TIED to the program's text (the seventh form; the later family's looks); each row that meets fmt, with fmt's text TOLD by the authors' own Lean function (tested against real Go, not proved from fmt's source: count such statements apart). THE CARD IS WHAT COUNTS. Prove the row's statement (the work); the ties are given (YtdjbfhllialinaaDoorTie.lean); close each card by the builder's one call (the guide's Derived/Test/ToyasCard.lean, 'card_holds'). Laid BY PROGRAM, IN A SANDBOX (cutbox-door.mjs). By AI agents, Wed Nov 11 2026. No macro, syntax, notation, axiom, sorry.
-/
import Derived.Test.YtdjbfhllialinaaDoorRows
import GoSem.ClaimSeven
namespace Go.Proofs.YtdjbfhllialinaaDoor
namespace Rows

/-- THE TIED CARD OF 'weirlaw14.RouteAny'. -/
def routeAnyCard : Claim7 := { stood := { row := routeAnyRow, standIns := [], harness := (true, "87652bf2fb2e9d6a3ab8aa17824d842da6a285c20cbbc45f785e4065131c7c51"), looks := false }, kinds := [], alts := [], laidByText := true, laidKinds := [.data], laidTests := true, laidLooks := .later }
def RouteAnyCardSaid : Prop := Claim7.holds Tryd.pinned (.plain (OpenSpec.ofChange routeAnySpec)) routeAnyCard

/-- THE SECOND FORM's CARD OF 'weirlaw14.RouteAny'. -/
def routeAnyUptoCard : Claim7 := { stood := { row := routeAnyUptoRow, standIns := [], harness := (true, "87652bf2fb2e9d6a3ab8aa17824d842da6a285c20cbbc45f785e4065131c7c51"), looks := false }, kinds := [], alts := [], laidByText := true, laidKinds := [.data], laidTests := true, laidLooks := .later }
def RouteAnyUptoCardSaid : Prop := Claim7.holds Tryd.pinned (.plain (OpenSpec.upto routeAnySpec)) routeAnyUptoCard
end Rows
end Go.Proofs.YtdjbfhllialinaaDoor
