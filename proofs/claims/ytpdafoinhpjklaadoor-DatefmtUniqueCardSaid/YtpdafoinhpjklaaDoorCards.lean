/-
  DERIVED. GIVEN WITH THE SEED: THE CARDS: each row of YtpdafoinhpjklaaDoorRows.lean that lists a variable, with what it lists TIED to the program's text (the seventh form; the later family's looks); each row that meets fmt, with fmt's text TOLD by the authors' own Lean function (tested against real Go, not proved from fmt's source: count such statements apart). THE CARD IS WHAT COUNTS. Prove the row's statement (the work); the ties are given (YtpdafoinhpjklaaDoorTie.lean); close each card by the builder's one call (the guide's Derived/Test/ToyasCard.lean, 'card_holds'). Laid BY PROGRAM, IN A SANDBOX (cutbox-door.mjs). By AI agents, Wed Nov 11 2026. No macro, syntax, notation, axiom, sorry.
-/
import Derived.Test.YtpdafoinhpjklaaDoorRows
import GoSem.ClaimSeven
namespace Go.Proofs.YtpdafoinhpjklaaDoor
namespace Rows

/-- THE TIED CARD OF 'annalistlaw3.DatefmtFormat'. -/
def datefmtFormatCard : Claim7 := { stood := { row := datefmtFormatRow, standIns := [], harness := (true, "64fa5d6e1380b071ef3d7386a0d4e4fa7f0f61f76d7a02bcf13d1fe1df726d51"), looks := false }, kinds := [], alts := [], laidByText := true, laidKinds := [.data, .data, .data], laidTests := true, laidLooks := .later }
def DatefmtFormatCardSaid : Prop := Claim7.holds Tryd.pinned (.plain (OpenSpec.ofChange datefmtFormatSpec)) datefmtFormatCard

/-- THE TIED CARD OF 'annalistlaw3.DatefmtParseDay'. -/
def datefmtParseDayCard : Claim7 := { stood := { row := datefmtParseDayRow, standIns := [], harness := (true, "64fa5d6e1380b071ef3d7386a0d4e4fa7f0f61f76d7a02bcf13d1fe1df726d51"), looks := false }, kinds := [], alts := [], laidByText := true, laidKinds := [.data, .data, .data], laidTests := true, laidLooks := .later }
def DatefmtParseDayCardSaid : Prop := Claim7.holds Tryd.pinned (.plain (OpenSpec.ofChange datefmtParseDaySpec)) datefmtParseDayCard

/-- THE TIED CARD OF 'annalistlaw3.DatefmtParsePeriod'. -/
def datefmtParsePeriodCard : Claim7 := { stood := { row := datefmtParsePeriodRow, standIns := [], harness := (true, "64fa5d6e1380b071ef3d7386a0d4e4fa7f0f61f76d7a02bcf13d1fe1df726d51"), looks := false }, kinds := [], alts := [], laidByText := true, laidKinds := [.data, .data, .data], laidTests := true, laidLooks := .later }
def DatefmtParsePeriodCardSaid : Prop := Claim7.holds Tryd.pinned (.plain (OpenSpec.ofChange datefmtParsePeriodSpec)) datefmtParsePeriodCard

/-- THE TIED CARD OF 'annalistlaw3.DatefmtRoundTrip'. -/
def datefmtRoundTripCard : Claim7 := { stood := { row := datefmtRoundTripRow, standIns := [], harness := (true, "64fa5d6e1380b071ef3d7386a0d4e4fa7f0f61f76d7a02bcf13d1fe1df726d51"), looks := false }, kinds := [], alts := [], laidByText := true, laidKinds := [.data, .data, .data], laidTests := true, laidLooks := .later }
def DatefmtRoundTripCardSaid : Prop := Claim7.holds Tryd.pinned (.plain (OpenSpec.ofChange datefmtRoundTripSpec)) datefmtRoundTripCard

/-- THE TIED CARD OF 'annalistlaw3.DatefmtUnique'. -/
def datefmtUniqueCard : Claim7 := { stood := { row := datefmtUniqueRow, standIns := [], harness := (true, "64fa5d6e1380b071ef3d7386a0d4e4fa7f0f61f76d7a02bcf13d1fe1df726d51"), looks := false }, kinds := [], alts := [], laidByText := true, laidKinds := [.data, .data, .data], laidTests := true, laidLooks := .later }
def DatefmtUniqueCardSaid : Prop := Claim7.holds Tryd.pinned (.plain (OpenSpec.ofChange datefmtUniqueSpec)) datefmtUniqueCard

/-- THE TIED CARD OF 'annalistlaw3.DatefmtOrder'. -/
def datefmtOrderCard : Claim7 := { stood := { row := datefmtOrderRow, standIns := [], harness := (true, "64fa5d6e1380b071ef3d7386a0d4e4fa7f0f61f76d7a02bcf13d1fe1df726d51"), looks := false }, kinds := [], alts := [], laidByText := true, laidKinds := [.data, .data, .data], laidTests := true, laidLooks := .later }
def DatefmtOrderCardSaid : Prop := Claim7.holds Tryd.pinned (.plain (OpenSpec.ofChange datefmtOrderSpec)) datefmtOrderCard

/-- THE SECOND FORM's CARD OF 'annalistlaw3.DatefmtFormat'. -/
def datefmtFormatUptoCard : Claim7 := { stood := { row := datefmtFormatUptoRow, standIns := [], harness := (true, "64fa5d6e1380b071ef3d7386a0d4e4fa7f0f61f76d7a02bcf13d1fe1df726d51"), looks := false }, kinds := [], alts := [], laidByText := true, laidKinds := [.data, .data, .data], laidTests := true, laidLooks := .later }
def DatefmtFormatUptoCardSaid : Prop := Claim7.holds Tryd.pinned (.plain (OpenSpec.upto datefmtFormatSpec)) datefmtFormatUptoCard

/-- THE SECOND FORM's CARD OF 'annalistlaw3.DatefmtParseDay'. -/
def datefmtParseDayUptoCard : Claim7 := { stood := { row := datefmtParseDayUptoRow, standIns := [], harness := (true, "64fa5d6e1380b071ef3d7386a0d4e4fa7f0f61f76d7a02bcf13d1fe1df726d51"), looks := false }, kinds := [], alts := [], laidByText := true, laidKinds := [.data, .data, .data], laidTests := true, laidLooks := .later }
def DatefmtParseDayUptoCardSaid : Prop := Claim7.holds Tryd.pinned (.plain (OpenSpec.upto datefmtParseDaySpec)) datefmtParseDayUptoCard

/-- THE SECOND FORM's CARD OF 'annalistlaw3.DatefmtParsePeriod'. -/
def datefmtParsePeriodUptoCard : Claim7 := { stood := { row := datefmtParsePeriodUptoRow, standIns := [], harness := (true, "64fa5d6e1380b071ef3d7386a0d4e4fa7f0f61f76d7a02bcf13d1fe1df726d51"), looks := false }, kinds := [], alts := [], laidByText := true, laidKinds := [.data, .data, .data], laidTests := true, laidLooks := .later }
def DatefmtParsePeriodUptoCardSaid : Prop := Claim7.holds Tryd.pinned (.plain (OpenSpec.upto datefmtParsePeriodSpec)) datefmtParsePeriodUptoCard

/-- THE SECOND FORM's CARD OF 'annalistlaw3.DatefmtRoundTrip'. -/
def datefmtRoundTripUptoCard : Claim7 := { stood := { row := datefmtRoundTripUptoRow, standIns := [], harness := (true, "64fa5d6e1380b071ef3d7386a0d4e4fa7f0f61f76d7a02bcf13d1fe1df726d51"), looks := false }, kinds := [], alts := [], laidByText := true, laidKinds := [.data, .data, .data], laidTests := true, laidLooks := .later }
def DatefmtRoundTripUptoCardSaid : Prop := Claim7.holds Tryd.pinned (.plain (OpenSpec.upto datefmtRoundTripSpec)) datefmtRoundTripUptoCard

/-- THE SECOND FORM's CARD OF 'annalistlaw3.DatefmtUnique'. -/
def datefmtUniqueUptoCard : Claim7 := { stood := { row := datefmtUniqueUptoRow, standIns := [], harness := (true, "64fa5d6e1380b071ef3d7386a0d4e4fa7f0f61f76d7a02bcf13d1fe1df726d51"), looks := false }, kinds := [], alts := [], laidByText := true, laidKinds := [.data, .data, .data], laidTests := true, laidLooks := .later }
def DatefmtUniqueUptoCardSaid : Prop := Claim7.holds Tryd.pinned (.plain (OpenSpec.upto datefmtUniqueSpec)) datefmtUniqueUptoCard

/-- THE SECOND FORM's CARD OF 'annalistlaw3.DatefmtOrder'. -/
def datefmtOrderUptoCard : Claim7 := { stood := { row := datefmtOrderUptoRow, standIns := [], harness := (true, "64fa5d6e1380b071ef3d7386a0d4e4fa7f0f61f76d7a02bcf13d1fe1df726d51"), looks := false }, kinds := [], alts := [], laidByText := true, laidKinds := [.data, .data, .data], laidTests := true, laidLooks := .later }
def DatefmtOrderUptoCardSaid : Prop := Claim7.holds Tryd.pinned (.plain (OpenSpec.upto datefmtOrderSpec)) datefmtOrderUptoCard
end Rows
end Go.Proofs.YtpdafoinhpjklaaDoor
