/-
  DERIVED. GIVEN WITH THE SEED: THE CARDS: each row of YtfoeepbndfnifaaGreatDoorRows.lean that lists a variable, with what it lists TIED to the program's text (the seventh form; the later family's looks); each row that meets fmt, with fmt's text TOLD by the authors' own Lean function (tested against real Go, not proved from fmt's source: count such statements apart). THE CARD IS WHAT COUNTS. Prove the row's statement (the work); the ties are given (YtfoeepbndfnifaaGreatDoorTie.lean); close each card by the builder's one call (the guide's Derived/Test/ToyasCard.lean, 'card_holds'). Laid BY PROGRAM, IN A SANDBOX (cutbox-door.mjs). By AI agents, Wed Nov 11 2026. No macro, syntax, notation, axiom, sorry.
-/
import Derived.Test.YtfoeepbndfnifaaGreatDoorRows
import GoSem.ClaimSeven
namespace Go.Proofs.YtfoeepbndfnifaaGreatDoor
namespace Rows

/-- THE TIED CARD OF 'weirlaw9.L4Udp'. -/
def l4UdpCard : Claim7 := { stood := { row := l4UdpRow, standIns := [], harness := (true, "a632a8b84440e6fdbde580513366a749cc58e5081632143fa65f99e236a1fe3b"), looks := false }, kinds := [], alts := [], laidByText := true, laidKinds := [.data, .data, .data], laidTests := true, laidLooks := .later }
def L4UdpCardSaid : Prop := Claim7.holds Tryz.pinned (.plain (OpenSpec.ofChange l4UdpSpec)) l4UdpCard

/-- THE TIED CARD OF 'weirlaw9.L4Tcp'. -/
def l4TcpCard : Claim7 := { stood := { row := l4TcpRow, standIns := [], harness := (true, "a632a8b84440e6fdbde580513366a749cc58e5081632143fa65f99e236a1fe3b"), looks := false }, kinds := [], alts := [], laidByText := true, laidKinds := [.data, .data, .data], laidTests := true, laidLooks := .later }
def L4TcpCardSaid : Prop := Claim7.holds Tryz.pinned (.plain (OpenSpec.ofChange l4TcpSpec)) l4TcpCard

/-- THE TIED CARD OF 'weirlaw9.L4Options'. -/
def l4OptionsCard : Claim7 := { stood := { row := l4OptionsRow, standIns := [], harness := (true, "a632a8b84440e6fdbde580513366a749cc58e5081632143fa65f99e236a1fe3b"), looks := false }, kinds := [], alts := [], laidByText := true, laidKinds := [.data, .data, .data], laidTests := true, laidLooks := .later }
def L4OptionsCardSaid : Prop := Claim7.holds Tryz.pinned (.plain (OpenSpec.ofChange l4OptionsSpec)) l4OptionsCard

/-- THE TIED CARD OF 'weirlaw9.L4Plays'. -/
def l4PlaysCard : Claim7 := { stood := { row := l4PlaysRow, standIns := [], harness := (true, "a632a8b84440e6fdbde580513366a749cc58e5081632143fa65f99e236a1fe3b"), looks := false }, kinds := [], alts := [], laidByText := true, laidKinds := [.data, .data, .data], laidTests := true, laidLooks := .later }
def L4PlaysCardSaid : Prop := Claim7.holds Tryz.pinned (.plain (OpenSpec.ofChange l4PlaysSpec)) l4PlaysCard

/-- THE TIED CARD OF 'weirlaw9.L4Lent'. -/
def l4LentCard : Claim7 := { stood := { row := l4LentRow, standIns := [], harness := (true, "a632a8b84440e6fdbde580513366a749cc58e5081632143fa65f99e236a1fe3b"), looks := false }, kinds := [], alts := [], laidByText := true, laidKinds := [.data, .data, .data], laidTests := true, laidLooks := .later }
def L4LentCardSaid : Prop := Claim7.holds Tryz.pinned (.plain (OpenSpec.ofChange l4LentSpec)) l4LentCard

/-- THE SECOND FORM's CARD OF 'weirlaw9.L4Udp'. -/
def l4UdpUptoCard : Claim7 := { stood := { row := l4UdpUptoRow, standIns := [], harness := (true, "a632a8b84440e6fdbde580513366a749cc58e5081632143fa65f99e236a1fe3b"), looks := false }, kinds := [], alts := [], laidByText := true, laidKinds := [.data, .data, .data], laidTests := true, laidLooks := .later }
def L4UdpUptoCardSaid : Prop := Claim7.holds Tryz.pinned (.plain (OpenSpec.upto l4UdpSpec)) l4UdpUptoCard

/-- THE SECOND FORM's CARD OF 'weirlaw9.L4Tcp'. -/
def l4TcpUptoCard : Claim7 := { stood := { row := l4TcpUptoRow, standIns := [], harness := (true, "a632a8b84440e6fdbde580513366a749cc58e5081632143fa65f99e236a1fe3b"), looks := false }, kinds := [], alts := [], laidByText := true, laidKinds := [.data, .data, .data], laidTests := true, laidLooks := .later }
def L4TcpUptoCardSaid : Prop := Claim7.holds Tryz.pinned (.plain (OpenSpec.upto l4TcpSpec)) l4TcpUptoCard

/-- THE SECOND FORM's CARD OF 'weirlaw9.L4Options'. -/
def l4OptionsUptoCard : Claim7 := { stood := { row := l4OptionsUptoRow, standIns := [], harness := (true, "a632a8b84440e6fdbde580513366a749cc58e5081632143fa65f99e236a1fe3b"), looks := false }, kinds := [], alts := [], laidByText := true, laidKinds := [.data, .data, .data], laidTests := true, laidLooks := .later }
def L4OptionsUptoCardSaid : Prop := Claim7.holds Tryz.pinned (.plain (OpenSpec.upto l4OptionsSpec)) l4OptionsUptoCard

/-- THE SECOND FORM's CARD OF 'weirlaw9.L4Plays'. -/
def l4PlaysUptoCard : Claim7 := { stood := { row := l4PlaysUptoRow, standIns := [], harness := (true, "a632a8b84440e6fdbde580513366a749cc58e5081632143fa65f99e236a1fe3b"), looks := false }, kinds := [], alts := [], laidByText := true, laidKinds := [.data, .data, .data], laidTests := true, laidLooks := .later }
def L4PlaysUptoCardSaid : Prop := Claim7.holds Tryz.pinned (.plain (OpenSpec.upto l4PlaysSpec)) l4PlaysUptoCard

/-- THE SECOND FORM's CARD OF 'weirlaw9.L4Lent'. -/
def l4LentUptoCard : Claim7 := { stood := { row := l4LentUptoRow, standIns := [], harness := (true, "a632a8b84440e6fdbde580513366a749cc58e5081632143fa65f99e236a1fe3b"), looks := false }, kinds := [], alts := [], laidByText := true, laidKinds := [.data, .data, .data], laidTests := true, laidLooks := .later }
def L4LentUptoCardSaid : Prop := Claim7.holds Tryz.pinned (.plain (OpenSpec.upto l4LentSpec)) l4LentUptoCard
end Rows
end Go.Proofs.YtfoeepbndfnifaaGreatDoor
