/-
  DERIVED. GIVEN WITH THE SEED: THE PROGRAM's TIES (one call each: nine closed facts by the kernel) AND EACH ROW's TIE, after the 31st guide's Derived/Test/Toyas{Tie, Card}.lean. No idea stands in it: it is a product of the set-up. Laid BY PROGRAM, IN A SANDBOX (cutbox-door.mjs). By AI agents, Wed Nov 11 2026. No macro, syntax, notation, axiom, sorry.
-/
import Derived.Test.YtijipfciimcnpaaDoorRows
import Derived.LaidByTextLater
import Derived.SevenTiedAt
import Derived.LaidSub
import Derived.LaidOnce
namespace Go.Proofs.YtijipfciimcnpaaDoor
open Go
set_option maxRecDepth 100000
theorem seatTie1 : Tryd.prog.laidByTextLater [("weir/addr.special", Rows.laid_weir_addr_special), ("weir/icmp.widths", Rows.laid_weir_icmp_widths), ("weir/icmp.discoveries", Rows.laid_weir_icmp_discoveries)] [.data, .data, .data] true :=
  Program.laidByTextLater_by_one 93 8 229 (by kernel_rfl) (by kernel_rfl) (by kernel_rfl) (by kernel_rfl) (by kernel_rfl) (by kernel_rfl) (fun _ _ => by kernel_rfl)
theorem seatTie2 : Tryd.prog.laidByTextLater [("weir/addr.special", Rows.laid_weir_addr_special), ("weir/ip4.widths", Rows.laid_weir_ip4_widths), ("weir/ip6.widths", Rows.laid_weir_ip6_widths), ("weir/ip6.kinds", Rows.laid_weir_ip6_kinds), ("weir/ip6.pieceWidths", Rows.laid_weir_ip6_pieceWidths), ("weir/icmp.widths", Rows.laid_weir_icmp_widths), ("weir/icmp.tellings", Rows.laid_weir_icmp_tellings)] [.data, .data, .data, .data, .data, .data, .data] true :=
  Program.laidByTextLater_by_one 93 8 229 (by kernel_rfl) (by kernel_rfl) (by kernel_rfl) (by kernel_rfl) (by kernel_rfl) (by kernel_rfl) (fun _ _ => by kernel_rfl)
theorem noOwnUnsafe : Tryd.pinned.checked.prog.headLifts.contains "ownunsafe" = false := by kernel_rfl
theorem tie : Tryd.prog.laidByTextLater [("weir/addr.special", Rows.laid_weir_addr_special), ("weir/icmp.discoveries", Rows.laid_weir_icmp_discoveries)] [.data, .data] true :=
  Program.laidByTextLater.sub seatTie1 ["weir/addr.special", "weir/icmp.discoveries"] (by kernel_rfl) (by kernel_rfl)
theorem icmpNdBack_row_tie : Rows.icmpNdBackRow.laidByTextAt .later Tryd.pinned [.data, .data] true :=
  OpenClaim.laidByTextAt_later rfl rfl tie noOwnUnsafe
theorem icmpNdPuts_row_tie : Rows.icmpNdPutsRow.laidByTextAt .later Tryd.pinned [.data, .data] true :=
  OpenClaim.laidByTextAt_later rfl rfl tie noOwnUnsafe
theorem icmpNds_row_tie : Rows.icmpNdsRow.laidByTextAt .later Tryd.pinned [.data, .data] true :=
  OpenClaim.laidByTextAt_later rfl rfl tie noOwnUnsafe
theorem tie2 : Tryd.prog.laidByTextLater [("weir/addr.special", Rows.laid_weir_addr_special), ("weir/ip4.widths", Rows.laid_weir_ip4_widths), ("weir/ip6.widths", Rows.laid_weir_ip6_widths), ("weir/ip6.kinds", Rows.laid_weir_ip6_kinds), ("weir/ip6.pieceWidths", Rows.laid_weir_ip6_pieceWidths), ("weir/icmp.widths", Rows.laid_weir_icmp_widths), ("weir/icmp.tellings", Rows.laid_weir_icmp_tellings)] [.data, .data, .data, .data, .data, .data, .data] true :=
  Program.laidByTextLater.sub seatTie2 ["weir/addr.special", "weir/ip4.widths", "weir/ip6.widths", "weir/ip6.kinds", "weir/ip6.pieceWidths", "weir/icmp.widths", "weir/icmp.tellings"] (by kernel_rfl) (by kernel_rfl)
theorem icmpQuiet_row_tie : Rows.icmpQuietRow.laidByTextAt .later Tryd.pinned [.data, .data, .data, .data, .data, .data, .data] true :=
  OpenClaim.laidByTextAt_later rfl rfl tie2 noOwnUnsafe
theorem tie3 : Tryd.prog.laidByTextLater [("weir/addr.special", Rows.laid_weir_addr_special), ("weir/icmp.widths", Rows.laid_weir_icmp_widths), ("weir/icmp.discoveries", Rows.laid_weir_icmp_discoveries)] [.data, .data, .data] true :=
  Program.laidByTextLater.sub seatTie1 ["weir/addr.special", "weir/icmp.widths", "weir/icmp.discoveries"] (by kernel_rfl) (by kernel_rfl)
theorem icmpAgain_row_tie : Rows.icmpAgainRow.laidByTextAt .later Tryd.pinned [.data, .data, .data] true :=
  OpenClaim.laidByTextAt_later rfl rfl tie3 noOwnUnsafe
theorem icmpNdBackUpto_row_tie : Rows.icmpNdBackUptoRow.laidByTextAt .later Tryd.pinned [.data, .data] true :=
  OpenClaim.laidByTextAt_later rfl rfl tie noOwnUnsafe
theorem icmpQuietUpto_row_tie : Rows.icmpQuietUptoRow.laidByTextAt .later Tryd.pinned [.data, .data, .data, .data, .data, .data, .data] true :=
  OpenClaim.laidByTextAt_later rfl rfl tie2 noOwnUnsafe
theorem icmpNdPutsUpto_row_tie : Rows.icmpNdPutsUptoRow.laidByTextAt .later Tryd.pinned [.data, .data] true :=
  OpenClaim.laidByTextAt_later rfl rfl tie noOwnUnsafe
theorem icmpNdsUpto_row_tie : Rows.icmpNdsUptoRow.laidByTextAt .later Tryd.pinned [.data, .data] true :=
  OpenClaim.laidByTextAt_later rfl rfl tie noOwnUnsafe
theorem icmpAgainUpto_row_tie : Rows.icmpAgainUptoRow.laidByTextAt .later Tryd.pinned [.data, .data, .data] true :=
  OpenClaim.laidByTextAt_later rfl rfl tie3 noOwnUnsafe
end Go.Proofs.YtijipfciimcnpaaDoor
