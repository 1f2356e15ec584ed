/-
  DERIVED. GIVEN WITH THE SEED: THE CARDS: each row of YtbplapkcleipiaaGreatDoorRows.lean that lists a variable, with what it lists TIED to the program's text (the seventh form; the later family's looks); each row that meets fmt, with fmt's text TOLD by the authors' own Lean function (tested against real Go, not proved from fmt's source: count such statements apart). THE CARD IS WHAT COUNTS. Prove the row's statement (the work); the ties are given (YtbplapkcleipiaaGreatDoorTie.lean); close each card by the builder's one call (the guide's Derived/Test/ToyasCard.lean, 'card_holds'). Laid BY PROGRAM, IN A SANDBOX (cutbox-door.mjs). By AI agents, Wed Nov 11 2026. No macro, syntax, notation, axiom, sorry.
-/
import Derived.Test.YtbplapkcleipiaaGreatDoorRows
import GoSem.ClaimSeven
namespace Go.Proofs.YtbplapkcleipiaaGreatDoor
namespace Rows

/-- THE TIED CARD OF 'annalistlaw9.AlgebraOrder'. -/
def algebraOrderCard : Claim7 := { stood := { row := algebraOrderRow, standIns := [], harness := (true, "81c893b156f8b33f09d28d302c4c9180ef068c41570e399a30a3707d46f34a4a"), looks := false }, kinds := [], alts := [], laidByText := true, laidKinds := [.data, .data, .data], laidTests := true, laidLooks := .later }
def AlgebraOrderCardSaid : Prop := Claim7.holds Tryz.pinned (.plain (OpenSpec.ofChange algebraOrderSpec)) algebraOrderCard

/-- THE TIED CARD OF 'annalistlaw9.AlgebraPushdown'. -/
def algebraPushdownCard : Claim7 := { stood := { row := algebraPushdownRow, standIns := [], harness := (true, "81c893b156f8b33f09d28d302c4c9180ef068c41570e399a30a3707d46f34a4a"), looks := false }, kinds := [], alts := [], laidByText := true, laidKinds := [.data, .data, .data], laidTests := true, laidLooks := .later }
def AlgebraPushdownCardSaid : Prop := Claim7.holds Tryz.pinned (.plain (OpenSpec.ofChange algebraPushdownSpec)) algebraPushdownCard

/-- THE TIED CARD OF 'annalistlaw9.AlgebraBalance'. -/
def algebraBalanceCard : Claim7 := { stood := { row := algebraBalanceRow, standIns := [], harness := (true, "81c893b156f8b33f09d28d302c4c9180ef068c41570e399a30a3707d46f34a4a"), looks := false }, kinds := [], alts := [], laidByText := true, laidKinds := [.data, .data, .data], laidTests := true, laidLooks := .later }
def AlgebraBalanceCardSaid : Prop := Claim7.holds Tryz.pinned (.plain (OpenSpec.ofChange algebraBalanceSpec)) algebraBalanceCard

/-- THE TIED CARD OF 'annalistlaw9.AlgebraLeftJoin'. -/
def algebraLeftJoinCard : Claim7 := { stood := { row := algebraLeftJoinRow, standIns := [], harness := (true, "81c893b156f8b33f09d28d302c4c9180ef068c41570e399a30a3707d46f34a4a"), looks := false }, kinds := [], alts := [], laidByText := true, laidKinds := [.data, .data, .data], laidTests := true, laidLooks := .later }
def AlgebraLeftJoinCardSaid : Prop := Claim7.holds Tryz.pinned (.plain (OpenSpec.ofChange algebraLeftJoinSpec)) algebraLeftJoinCard

/-- THE TIED CARD OF 'annalistlaw9.AlgebraGroups'. -/
def algebraGroupsCard : Claim7 := { stood := { row := algebraGroupsRow, standIns := [], harness := (true, "81c893b156f8b33f09d28d302c4c9180ef068c41570e399a30a3707d46f34a4a"), looks := false }, kinds := [], alts := [], laidByText := true, laidKinds := [.data, .data, .data], laidTests := true, laidLooks := .later }
def AlgebraGroupsCardSaid : Prop := Claim7.holds Tryz.pinned (.plain (OpenSpec.ofChange algebraGroupsSpec)) algebraGroupsCard

/-- THE TIED CARD OF 'annalistlaw9.AlgebraLineage'. -/
def algebraLineageCard : Claim7 := { stood := { row := algebraLineageRow, standIns := [], harness := (true, "81c893b156f8b33f09d28d302c4c9180ef068c41570e399a30a3707d46f34a4a"), looks := false }, kinds := [], alts := [], laidByText := true, laidKinds := [.data, .data, .data], laidTests := true, laidLooks := .later }
def AlgebraLineageCardSaid : Prop := Claim7.holds Tryz.pinned (.plain (OpenSpec.ofChange algebraLineageSpec)) algebraLineageCard

/-- THE TIED CARD OF 'annalistlaw9.AlgebraFull'. -/
def algebraFullCard : Claim7 := { stood := { row := algebraFullRow, standIns := [], harness := (true, "81c893b156f8b33f09d28d302c4c9180ef068c41570e399a30a3707d46f34a4a"), looks := false }, kinds := [], alts := [], laidByText := true, laidKinds := [.data, .data, .data], laidTests := true, laidLooks := .later }
def AlgebraFullCardSaid : Prop := Claim7.holds Tryz.pinned (.plain (OpenSpec.ofChange algebraFullSpec)) algebraFullCard

/-- THE SECOND FORM's CARD OF 'annalistlaw9.AlgebraOrder'. -/
def algebraOrderUptoCard : Claim7 := { stood := { row := algebraOrderUptoRow, standIns := [], harness := (true, "81c893b156f8b33f09d28d302c4c9180ef068c41570e399a30a3707d46f34a4a"), looks := false }, kinds := [], alts := [], laidByText := true, laidKinds := [.data, .data, .data], laidTests := true, laidLooks := .later }
def AlgebraOrderUptoCardSaid : Prop := Claim7.holds Tryz.pinned (.plain (OpenSpec.upto algebraOrderSpec)) algebraOrderUptoCard

/-- THE SECOND FORM's CARD OF 'annalistlaw9.AlgebraPushdown'. -/
def algebraPushdownUptoCard : Claim7 := { stood := { row := algebraPushdownUptoRow, standIns := [], harness := (true, "81c893b156f8b33f09d28d302c4c9180ef068c41570e399a30a3707d46f34a4a"), looks := false }, kinds := [], alts := [], laidByText := true, laidKinds := [.data, .data, .data], laidTests := true, laidLooks := .later }
def AlgebraPushdownUptoCardSaid : Prop := Claim7.holds Tryz.pinned (.plain (OpenSpec.upto algebraPushdownSpec)) algebraPushdownUptoCard

/-- THE SECOND FORM's CARD OF 'annalistlaw9.AlgebraBalance'. -/
def algebraBalanceUptoCard : Claim7 := { stood := { row := algebraBalanceUptoRow, standIns := [], harness := (true, "81c893b156f8b33f09d28d302c4c9180ef068c41570e399a30a3707d46f34a4a"), looks := false }, kinds := [], alts := [], laidByText := true, laidKinds := [.data, .data, .data], laidTests := true, laidLooks := .later }
def AlgebraBalanceUptoCardSaid : Prop := Claim7.holds Tryz.pinned (.plain (OpenSpec.upto algebraBalanceSpec)) algebraBalanceUptoCard

/-- THE SECOND FORM's CARD OF 'annalistlaw9.AlgebraLeftJoin'. -/
def algebraLeftJoinUptoCard : Claim7 := { stood := { row := algebraLeftJoinUptoRow, standIns := [], harness := (true, "81c893b156f8b33f09d28d302c4c9180ef068c41570e399a30a3707d46f34a4a"), looks := false }, kinds := [], alts := [], laidByText := true, laidKinds := [.data, .data, .data], laidTests := true, laidLooks := .later }
def AlgebraLeftJoinUptoCardSaid : Prop := Claim7.holds Tryz.pinned (.plain (OpenSpec.upto algebraLeftJoinSpec)) algebraLeftJoinUptoCard

/-- THE SECOND FORM's CARD OF 'annalistlaw9.AlgebraGroups'. -/
def algebraGroupsUptoCard : Claim7 := { stood := { row := algebraGroupsUptoRow, standIns := [], harness := (true, "81c893b156f8b33f09d28d302c4c9180ef068c41570e399a30a3707d46f34a4a"), looks := false }, kinds := [], alts := [], laidByText := true, laidKinds := [.data, .data, .data], laidTests := true, laidLooks := .later }
def AlgebraGroupsUptoCardSaid : Prop := Claim7.holds Tryz.pinned (.plain (OpenSpec.upto algebraGroupsSpec)) algebraGroupsUptoCard

/-- THE SECOND FORM's CARD OF 'annalistlaw9.AlgebraLineage'. -/
def algebraLineageUptoCard : Claim7 := { stood := { row := algebraLineageUptoRow, standIns := [], harness := (true, "81c893b156f8b33f09d28d302c4c9180ef068c41570e399a30a3707d46f34a4a"), looks := false }, kinds := [], alts := [], laidByText := true, laidKinds := [.data, .data, .data], laidTests := true, laidLooks := .later }
def AlgebraLineageUptoCardSaid : Prop := Claim7.holds Tryz.pinned (.plain (OpenSpec.upto algebraLineageSpec)) algebraLineageUptoCard

/-- THE SECOND FORM's CARD OF 'annalistlaw9.AlgebraFull'. -/
def algebraFullUptoCard : Claim7 := { stood := { row := algebraFullUptoRow, standIns := [], harness := (true, "81c893b156f8b33f09d28d302c4c9180ef068c41570e399a30a3707d46f34a4a"), looks := false }, kinds := [], alts := [], laidByText := true, laidKinds := [.data, .data, .data], laidTests := true, laidLooks := .later }
def AlgebraFullUptoCardSaid : Prop := Claim7.holds Tryz.pinned (.plain (OpenSpec.upto algebraFullSpec)) algebraFullUptoCard
end Rows
end Go.Proofs.YtbplapkcleipiaaGreatDoor
