/-
  DERIVED. GIVEN WITH THE SEED: THE CARDS: each row of YtjphkgnngkbgcaaDoorRows.lean that lists a variable, with what it lists TIED to the program's text (the seventh form; the later family's looks); each row that meets fmt, with fmt's text TOLD by the authors' own Lean function (tested against real Go, not proved from fmt's source: count such statements apart). THE CARD IS WHAT COUNTS. Prove the row's statement (the work); the ties are given (YtjphkgnngkbgcaaDoorTie.lean); close each card by the builder's one call (the guide's Derived/Test/ToyasCard.lean, 'card_holds'). Laid BY PROGRAM, IN A SANDBOX (cutbox-door.mjs). By AI agents, Wed Nov 11 2026. No macro, syntax, notation, axiom, sorry.
-/
import Derived.Test.YtjphkgnngkbgcaaDoorRows
import GoSem.ClaimSeven
namespace Go.Proofs.YtjphkgnngkbgcaaDoor
namespace Rows

/-- THE TIED CARD OF 'annalistlaw2.GranuleIndex'. -/
def granuleIndexCard : Claim7 := { stood := { row := granuleIndexRow, standIns := [], harness := (true, "f338d3cf5eb5593d198e62050d56bea69f139f2a63565ce1227da2833f12cae6"), looks := false }, kinds := [], alts := [], laidByText := true, laidKinds := [.data], laidTests := true, laidLooks := .later }
def GranuleIndexCardSaid : Prop := Claim7.holds Tryd.pinned (.plain (OpenSpec.ofChange granuleIndexSpec)) granuleIndexCard

/-- THE TIED CARD OF 'annalistlaw2.GranuleSpan'. -/
def granuleSpanCard : Claim7 := { stood := { row := granuleSpanRow, standIns := [], harness := (true, "f338d3cf5eb5593d198e62050d56bea69f139f2a63565ce1227da2833f12cae6"), looks := false }, kinds := [], alts := [], laidByText := true, laidKinds := [.data], laidTests := true, laidLooks := .later }
def GranuleSpanCardSaid : Prop := Claim7.holds Tryd.pinned (.plain (OpenSpec.ofChange granuleSpanSpec)) granuleSpanCard

/-- THE TIED CARD OF 'annalistlaw2.GranulePartition'. -/
def granulePartitionCard : Claim7 := { stood := { row := granulePartitionRow, standIns := [], harness := (true, "f338d3cf5eb5593d198e62050d56bea69f139f2a63565ce1227da2833f12cae6"), looks := false }, kinds := [], alts := [], laidByText := true, laidKinds := [.data], laidTests := true, laidLooks := .later }
def GranulePartitionCardSaid : Prop := Claim7.holds Tryd.pinned (.plain (OpenSpec.ofChange granulePartitionSpec)) granulePartitionCard

/-- THE TIED CARD OF 'annalistlaw2.GranuleSplit'. -/
def granuleSplitCard : Claim7 := { stood := { row := granuleSplitRow, standIns := [], harness := (true, "f338d3cf5eb5593d198e62050d56bea69f139f2a63565ce1227da2833f12cae6"), looks := false }, kinds := [], alts := [], laidByText := true, laidKinds := [.data], laidTests := true, laidLooks := .later }
def GranuleSplitCardSaid : Prop := Claim7.holds Tryd.pinned (.plain (OpenSpec.ofChange granuleSplitSpec)) granuleSplitCard

/-- THE TIED CARD OF 'annalistlaw2.GranulePieces'. -/
def granulePiecesCard : Claim7 := { stood := { row := granulePiecesRow, standIns := [], harness := (true, "f338d3cf5eb5593d198e62050d56bea69f139f2a63565ce1227da2833f12cae6"), looks := false }, kinds := [], alts := [], laidByText := true, laidKinds := [.data], laidTests := true, laidLooks := .later }
def GranulePiecesCardSaid : Prop := Claim7.holds Tryd.pinned (.plain (OpenSpec.ofChange granulePiecesSpec)) granulePiecesCard

/-- THE TIED CARD OF 'annalistlaw2.GranuleCovering'. -/
def granuleCoveringCard : Claim7 := { stood := { row := granuleCoveringRow, standIns := [], harness := (true, "f338d3cf5eb5593d198e62050d56bea69f139f2a63565ce1227da2833f12cae6"), looks := false }, kinds := [], alts := [], laidByText := true, laidKinds := [.data], laidTests := true, laidLooks := .later }
def GranuleCoveringCardSaid : Prop := Claim7.holds Tryd.pinned (.plain (OpenSpec.ofChange granuleCoveringSpec)) granuleCoveringCard

/-- THE TIED CARD OF 'annalistlaw2.GranuleMonotone'. -/
def granuleMonotoneCard : Claim7 := { stood := { row := granuleMonotoneRow, standIns := [], harness := (true, "f338d3cf5eb5593d198e62050d56bea69f139f2a63565ce1227da2833f12cae6"), looks := false }, kinds := [], alts := [], laidByText := true, laidKinds := [.data], laidTests := true, laidLooks := .later }
def GranuleMonotoneCardSaid : Prop := Claim7.holds Tryd.pinned (.plain (OpenSpec.ofChange granuleMonotoneSpec)) granuleMonotoneCard

/-- THE TIED CARD OF 'annalistlaw2.GranuleLengths'. -/
def granuleLengthsCard : Claim7 := { stood := { row := granuleLengthsRow, standIns := [], harness := (true, "f338d3cf5eb5593d198e62050d56bea69f139f2a63565ce1227da2833f12cae6"), looks := false }, kinds := [], alts := [], laidByText := true, laidKinds := [.data], laidTests := true, laidLooks := .later }
def GranuleLengthsCardSaid : Prop := Claim7.holds Tryd.pinned (.plain (OpenSpec.ofChange granuleLengthsSpec)) granuleLengthsCard

/-- THE SECOND FORM's CARD OF 'annalistlaw2.GranuleIndex'. -/
def granuleIndexUptoCard : Claim7 := { stood := { row := granuleIndexUptoRow, standIns := [], harness := (true, "f338d3cf5eb5593d198e62050d56bea69f139f2a63565ce1227da2833f12cae6"), looks := false }, kinds := [], alts := [], laidByText := true, laidKinds := [.data], laidTests := true, laidLooks := .later }
def GranuleIndexUptoCardSaid : Prop := Claim7.holds Tryd.pinned (.plain (OpenSpec.upto granuleIndexSpec)) granuleIndexUptoCard

/-- THE SECOND FORM's CARD OF 'annalistlaw2.GranuleSpan'. -/
def granuleSpanUptoCard : Claim7 := { stood := { row := granuleSpanUptoRow, standIns := [], harness := (true, "f338d3cf5eb5593d198e62050d56bea69f139f2a63565ce1227da2833f12cae6"), looks := false }, kinds := [], alts := [], laidByText := true, laidKinds := [.data], laidTests := true, laidLooks := .later }
def GranuleSpanUptoCardSaid : Prop := Claim7.holds Tryd.pinned (.plain (OpenSpec.upto granuleSpanSpec)) granuleSpanUptoCard

/-- THE SECOND FORM's CARD OF 'annalistlaw2.GranulePartition'. -/
def granulePartitionUptoCard : Claim7 := { stood := { row := granulePartitionUptoRow, standIns := [], harness := (true, "f338d3cf5eb5593d198e62050d56bea69f139f2a63565ce1227da2833f12cae6"), looks := false }, kinds := [], alts := [], laidByText := true, laidKinds := [.data], laidTests := true, laidLooks := .later }
def GranulePartitionUptoCardSaid : Prop := Claim7.holds Tryd.pinned (.plain (OpenSpec.upto granulePartitionSpec)) granulePartitionUptoCard

/-- THE SECOND FORM's CARD OF 'annalistlaw2.GranuleSplit'. -/
def granuleSplitUptoCard : Claim7 := { stood := { row := granuleSplitUptoRow, standIns := [], harness := (true, "f338d3cf5eb5593d198e62050d56bea69f139f2a63565ce1227da2833f12cae6"), looks := false }, kinds := [], alts := [], laidByText := true, laidKinds := [.data], laidTests := true, laidLooks := .later }
def GranuleSplitUptoCardSaid : Prop := Claim7.holds Tryd.pinned (.plain (OpenSpec.upto granuleSplitSpec)) granuleSplitUptoCard

/-- THE SECOND FORM's CARD OF 'annalistlaw2.GranulePieces'. -/
def granulePiecesUptoCard : Claim7 := { stood := { row := granulePiecesUptoRow, standIns := [], harness := (true, "f338d3cf5eb5593d198e62050d56bea69f139f2a63565ce1227da2833f12cae6"), looks := false }, kinds := [], alts := [], laidByText := true, laidKinds := [.data], laidTests := true, laidLooks := .later }
def GranulePiecesUptoCardSaid : Prop := Claim7.holds Tryd.pinned (.plain (OpenSpec.upto granulePiecesSpec)) granulePiecesUptoCard

/-- THE SECOND FORM's CARD OF 'annalistlaw2.GranuleCovering'. -/
def granuleCoveringUptoCard : Claim7 := { stood := { row := granuleCoveringUptoRow, standIns := [], harness := (true, "f338d3cf5eb5593d198e62050d56bea69f139f2a63565ce1227da2833f12cae6"), looks := false }, kinds := [], alts := [], laidByText := true, laidKinds := [.data], laidTests := true, laidLooks := .later }
def GranuleCoveringUptoCardSaid : Prop := Claim7.holds Tryd.pinned (.plain (OpenSpec.upto granuleCoveringSpec)) granuleCoveringUptoCard

/-- THE SECOND FORM's CARD OF 'annalistlaw2.GranuleMonotone'. -/
def granuleMonotoneUptoCard : Claim7 := { stood := { row := granuleMonotoneUptoRow, standIns := [], harness := (true, "f338d3cf5eb5593d198e62050d56bea69f139f2a63565ce1227da2833f12cae6"), looks := false }, kinds := [], alts := [], laidByText := true, laidKinds := [.data], laidTests := true, laidLooks := .later }
def GranuleMonotoneUptoCardSaid : Prop := Claim7.holds Tryd.pinned (.plain (OpenSpec.upto granuleMonotoneSpec)) granuleMonotoneUptoCard

/-- THE SECOND FORM's CARD OF 'annalistlaw2.GranuleLengths'. -/
def granuleLengthsUptoCard : Claim7 := { stood := { row := granuleLengthsUptoRow, standIns := [], harness := (true, "f338d3cf5eb5593d198e62050d56bea69f139f2a63565ce1227da2833f12cae6"), looks := false }, kinds := [], alts := [], laidByText := true, laidKinds := [.data], laidTests := true, laidLooks := .later }
def GranuleLengthsUptoCardSaid : Prop := Claim7.holds Tryd.pinned (.plain (OpenSpec.upto granuleLengthsSpec)) granuleLengthsUptoCard
end Rows
end Go.Proofs.YtjphkgnngkbgcaaDoor
