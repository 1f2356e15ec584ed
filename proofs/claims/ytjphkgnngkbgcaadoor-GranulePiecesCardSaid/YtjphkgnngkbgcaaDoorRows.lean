/-
  NARROWER THAN 'FOR EVERY INPUT', by the rows' own cells (each row's printed sentence says how): GranuleIndex: laid · GranuleSpan: laid · GranulePartition: laid · GranuleSplit: laid · GranulePieces: laid · GranuleCovering: laid · GranuleMonotone: laid · GranuleLengths: laid.
  DERIVED. THE GIVEN ROWS OF THIS SEAT. 8 by the template 'for every input the law returns true; each argument reads behind the call as it read before'; 0 by the template 'total and deterministic' (their statements: YtjphkgnngkbgcaaDoorTotals.lean).
  GIVEN WITH THE SEED: the statements are not yours to turn. If you find one false, say at which input.
  Laid BY PROGRAM, IN A SANDBOX (cutbox-rows.mjs): the forced cells as the released guide's own fill.sh prints them over the translation 21c654b90423c38e… (all of the seat's roots in one cut). By AI agents, Wed Nov 11 2026. No macro, syntax, notation, axiom, sorry.
-/
import Derived.Test.YtjphkgnngkbgcaaDoorChecked
import GoSem.Claim
import GoSem.ClaimJoined
import GoSem.ClaimMapViews
import Derived.JoinedTies
import Derived.KernelRfl
namespace Go.Proofs.YtjphkgnngkbgcaaDoor
/- THE CELL 'sum', in the pinned program and in every row, IS THE sha256 OF THE DUMP (.gsa) THAT YtjphkgnngkbgcaaDoorProg.lean LOADS. Nothing in Lean hashes anything: it is a label: what it is worth is what the hold of that sum in a sandbox is worth. -/
noncomputable def Tryd.pinned : Pinned := { name := "ytjphkgnngkbgcaadoor", sum := "21c654b90423c38e3deed1dd192a46d62d70646872e3b06165a78a6134a8b7db", checked := Tryd.checked }
namespace Rows
def none {H : Type} : Left H := { results := [], args := [] }

/- WHAT THE LISTED PACKAGE-LEVEL VARIABLES READ AS WHEN THE CALL BEGINS. Each datum BY PROGRAM (the guide's laid-datum.mjs) off the statement by which the dump's own 'gosem.cut.vars' lays the variable. In a bare row this is a premise. The card (YtjphkgnngkbgcaaDoorCards.lean) ties it to the program's text. -/
def laid_annalist_granule_longYears {H : Type} : DataW H := .agg [.lit (.int .i64 12), .lit (.int .i64 40), .lit (.int .i64 68), .lit (.int .i64 96), .lit (.int .i64 108), .lit (.int .i64 136), .lit (.int .i64 164), .lit (.int .i64 192), .lit (.int .i64 204), .lit (.int .i64 232), .lit (.int .i64 260), .lit (.int .i64 288), .lit (.int .i64 328), .lit (.int .i64 356), .lit (.int .i64 384)]

/-- 'annalistlaw2.GranuleIndex': WHATEVER THE INPUT: true; the input reads as it did. -/
def granuleIndexSpec : ChangeSpec := { name := "granuleIndex", fn := fun _ => fun
  | [d1, d2] => { results := [.lit (.bool true)], args := [d1, d2] }
  | _ => none }
def granuleIndexRow : OpenClaim := { program := "ytjphkgnngkbgcaadoor", sum := "21c654b90423c38e3deed1dd192a46d62d70646872e3b06165a78a6134a8b7db", func := "annalist/annalistlaw2.GranuleIndex", spec := "granuleIndex", named := ["annalist/granule.longYears"], apart := false, laid := [("annalist/granule.longYears", laid_annalist_granule_longYears)] }
def GranuleIndexSaid : Prop := granuleIndexRow.holds Tryd.pinned (OpenSpec.ofChange granuleIndexSpec)

/-- ITS FALSE NEIGHBOUR: 'it returns false'. Refute it at one input. -/
def granuleIndexWrong : ChangeSpec := { name := "granuleIndex", fn := fun _ => fun
  | [d1, d2] => { results := [.lit (.bool false)], args := [d1, d2] }
  | _ => none }
def GranuleIndexWrongFalsely : Prop := granuleIndexRow.holds Tryd.pinned (OpenSpec.ofChange granuleIndexWrong)

/-- 'annalistlaw2.GranuleSpan': WHATEVER THE INPUT: true; the input reads as it did. -/
def granuleSpanSpec : ChangeSpec := { name := "granuleSpan", fn := fun _ => fun
  | [d1, d2] => { results := [.lit (.bool true)], args := [d1, d2] }
  | _ => none }
def granuleSpanRow : OpenClaim := { program := "ytjphkgnngkbgcaadoor", sum := "21c654b90423c38e3deed1dd192a46d62d70646872e3b06165a78a6134a8b7db", func := "annalist/annalistlaw2.GranuleSpan", spec := "granuleSpan", named := ["annalist/granule.longYears"], apart := false, laid := [("annalist/granule.longYears", laid_annalist_granule_longYears)] }
def GranuleSpanSaid : Prop := granuleSpanRow.holds Tryd.pinned (OpenSpec.ofChange granuleSpanSpec)

/-- ITS FALSE NEIGHBOUR: 'it returns false'. Refute it at one input. -/
def granuleSpanWrong : ChangeSpec := { name := "granuleSpan", fn := fun _ => fun
  | [d1, d2] => { results := [.lit (.bool false)], args := [d1, d2] }
  | _ => none }
def GranuleSpanWrongFalsely : Prop := granuleSpanRow.holds Tryd.pinned (OpenSpec.ofChange granuleSpanWrong)

/-- 'annalistlaw2.GranulePartition': WHATEVER THE INPUT: true; the input reads as it did. -/
def granulePartitionSpec : ChangeSpec := { name := "granulePartition", fn := fun _ => fun
  | [d1, d2] => { results := [.lit (.bool true)], args := [d1, d2] }
  | _ => none }
def granulePartitionRow : OpenClaim := { program := "ytjphkgnngkbgcaadoor", sum := "21c654b90423c38e3deed1dd192a46d62d70646872e3b06165a78a6134a8b7db", func := "annalist/annalistlaw2.GranulePartition", spec := "granulePartition", named := ["annalist/granule.longYears"], apart := false, laid := [("annalist/granule.longYears", laid_annalist_granule_longYears)] }
def GranulePartitionSaid : Prop := granulePartitionRow.holds Tryd.pinned (OpenSpec.ofChange granulePartitionSpec)

/-- ITS FALSE NEIGHBOUR: 'it returns false'. Refute it at one input. -/
def granulePartitionWrong : ChangeSpec := { name := "granulePartition", fn := fun _ => fun
  | [d1, d2] => { results := [.lit (.bool false)], args := [d1, d2] }
  | _ => none }
def GranulePartitionWrongFalsely : Prop := granulePartitionRow.holds Tryd.pinned (OpenSpec.ofChange granulePartitionWrong)

/-- 'annalistlaw2.GranuleSplit': WHATEVER THE INPUT: true; the input reads as it did. -/
def granuleSplitSpec : ChangeSpec := { name := "granuleSplit", fn := fun _ => fun
  | [d1, d2] => { results := [.lit (.bool true)], args := [d1, d2] }
  | _ => none }
def granuleSplitRow : OpenClaim := { program := "ytjphkgnngkbgcaadoor", sum := "21c654b90423c38e3deed1dd192a46d62d70646872e3b06165a78a6134a8b7db", func := "annalist/annalistlaw2.GranuleSplit", spec := "granuleSplit", named := ["annalist/granule.longYears"], apart := false, laid := [("annalist/granule.longYears", laid_annalist_granule_longYears)] }
def GranuleSplitSaid : Prop := granuleSplitRow.holds Tryd.pinned (OpenSpec.ofChange granuleSplitSpec)

/-- ITS FALSE NEIGHBOUR: 'it returns false'. Refute it at one input. -/
def granuleSplitWrong : ChangeSpec := { name := "granuleSplit", fn := fun _ => fun
  | [d1, d2] => { results := [.lit (.bool false)], args := [d1, d2] }
  | _ => none }
def GranuleSplitWrongFalsely : Prop := granuleSplitRow.holds Tryd.pinned (OpenSpec.ofChange granuleSplitWrong)

/-- 'annalistlaw2.GranulePieces': WHATEVER THE INPUT: true; the input reads as it did. -/
def granulePiecesSpec : ChangeSpec := { name := "granulePieces", fn := fun _ => fun
  | [d1, d2, d3, d4] => { results := [.lit (.bool true)], args := [d1, d2, d3, d4] }
  | _ => none }
def granulePiecesRow : OpenClaim := { program := "ytjphkgnngkbgcaadoor", sum := "21c654b90423c38e3deed1dd192a46d62d70646872e3b06165a78a6134a8b7db", func := "annalist/annalistlaw2.GranulePieces", spec := "granulePieces", named := ["annalist/granule.longYears"], apart := false, laid := [("annalist/granule.longYears", laid_annalist_granule_longYears)] }
def GranulePiecesSaid : Prop := granulePiecesRow.holds Tryd.pinned (OpenSpec.ofChange granulePiecesSpec)

/-- ITS FALSE NEIGHBOUR: 'it returns false'. Refute it at one input. -/
def granulePiecesWrong : ChangeSpec := { name := "granulePieces", fn := fun _ => fun
  | [d1, d2, d3, d4] => { results := [.lit (.bool false)], args := [d1, d2, d3, d4] }
  | _ => none }
def GranulePiecesWrongFalsely : Prop := granulePiecesRow.holds Tryd.pinned (OpenSpec.ofChange granulePiecesWrong)

/-- 'annalistlaw2.GranuleCovering': WHATEVER THE INPUT: true; the input reads as it did. -/
def granuleCoveringSpec : ChangeSpec := { name := "granuleCovering", fn := fun _ => fun
  | [d1, d2, d3] => { results := [.lit (.bool true)], args := [d1, d2, d3] }
  | _ => none }
def granuleCoveringRow : OpenClaim := { program := "ytjphkgnngkbgcaadoor", sum := "21c654b90423c38e3deed1dd192a46d62d70646872e3b06165a78a6134a8b7db", func := "annalist/annalistlaw2.GranuleCovering", spec := "granuleCovering", named := ["annalist/granule.longYears"], apart := false, laid := [("annalist/granule.longYears", laid_annalist_granule_longYears)] }
def GranuleCoveringSaid : Prop := granuleCoveringRow.holds Tryd.pinned (OpenSpec.ofChange granuleCoveringSpec)

/-- ITS FALSE NEIGHBOUR: 'it returns false'. Refute it at one input. -/
def granuleCoveringWrong : ChangeSpec := { name := "granuleCovering", fn := fun _ => fun
  | [d1, d2, d3] => { results := [.lit (.bool false)], args := [d1, d2, d3] }
  | _ => none }
def GranuleCoveringWrongFalsely : Prop := granuleCoveringRow.holds Tryd.pinned (OpenSpec.ofChange granuleCoveringWrong)

/-- 'annalistlaw2.GranuleMonotone': WHATEVER THE INPUT: true; the input reads as it did. -/
def granuleMonotoneSpec : ChangeSpec := { name := "granuleMonotone", fn := fun _ => fun
  | [d1, d2] => { results := [.lit (.bool true)], args := [d1, d2] }
  | _ => none }
def granuleMonotoneRow : OpenClaim := { program := "ytjphkgnngkbgcaadoor", sum := "21c654b90423c38e3deed1dd192a46d62d70646872e3b06165a78a6134a8b7db", func := "annalist/annalistlaw2.GranuleMonotone", spec := "granuleMonotone", named := ["annalist/granule.longYears"], apart := false, laid := [("annalist/granule.longYears", laid_annalist_granule_longYears)] }
def GranuleMonotoneSaid : Prop := granuleMonotoneRow.holds Tryd.pinned (OpenSpec.ofChange granuleMonotoneSpec)

/-- ITS FALSE NEIGHBOUR: 'it returns false'. Refute it at one input. -/
def granuleMonotoneWrong : ChangeSpec := { name := "granuleMonotone", fn := fun _ => fun
  | [d1, d2] => { results := [.lit (.bool false)], args := [d1, d2] }
  | _ => none }
def GranuleMonotoneWrongFalsely : Prop := granuleMonotoneRow.holds Tryd.pinned (OpenSpec.ofChange granuleMonotoneWrong)

/-- 'annalistlaw2.GranuleLengths': WHATEVER THE INPUT: true; the input reads as it did. -/
def granuleLengthsSpec : ChangeSpec := { name := "granuleLengths", fn := fun _ => fun
  | [d1, d2, d3] => { results := [.lit (.bool true)], args := [d1, d2, d3] }
  | _ => none }
def granuleLengthsRow : OpenClaim := { program := "ytjphkgnngkbgcaadoor", sum := "21c654b90423c38e3deed1dd192a46d62d70646872e3b06165a78a6134a8b7db", func := "annalist/annalistlaw2.GranuleLengths", spec := "granuleLengths", named := ["annalist/granule.longYears"], apart := false, laid := [("annalist/granule.longYears", laid_annalist_granule_longYears)] }
def GranuleLengthsSaid : Prop := granuleLengthsRow.holds Tryd.pinned (OpenSpec.ofChange granuleLengthsSpec)

/-- ITS FALSE NEIGHBOUR: 'it returns false'. Refute it at one input. -/
def granuleLengthsWrong : ChangeSpec := { name := "granuleLengths", fn := fun _ => fun
  | [d1, d2, d3] => { results := [.lit (.bool false)], args := [d1, d2, d3] }
  | _ => none }
def GranuleLengthsWrongFalsely : Prop := granuleLengthsRow.holds Tryd.pinned (OpenSpec.ofChange granuleLengthsWrong)

/- THE SECOND FORM. 'bulk': how many values and letters a reading holds, each counted each time it is reached (what is shared counts as often as it is met; a slice's spare places count too). A statement '..UptoSaid' is the law's where the arguments, and the package variables that the reading takes, are together of bulk at most 1048576: NARROWER than '..Said'. Prove '..Said' where nothing that the law and all that it calls make is longer than what came in: it says more and counts as full. Else prove '..UptoSaid'. A law counts once. -/
mutual
def uptoBulk {H : Type} : DataW H → Nat
  | .lit (.string bytes) => bytes.length + 1
  | .lit _ => 1
  | .nil => 1
  | .ptr d => uptoBulk d + 1
  | .slice elems spare => uptoBulkAll elems + uptoBulkAll spare + 1
  | .agg parts => uptoBulkAll parts + 1
  | .iface _ d => uptoBulk d + 1
  | .map entries => uptoBulkEntries entries + 1
  | .held _ => 1
def uptoBulkAll {H : Type} : List (DataW H) → Nat
  | [] => 0
  | d :: r => uptoBulk d + uptoBulkAll r
def uptoBulkEntries {H : Type} : List (Lit × DataW H) → Nat
  | [] => 0
  | x :: r => uptoBulkEntry x + uptoBulkEntries r
def uptoBulkEntry {H : Type} : Lit × DataW H → Nat
  | (.string bytes, d) => bytes.length + uptoBulk d + 1
  | (_, d) => uptoBulk d + 1
 end
def uptoSmall : (H : Type) → List (DataW H) → Bool := fun _ ds => decide (uptoBulkAll ds ≤ 1048576)
def OpenSpec.upto (s : _root_.Go.ChangeSpec) : _root_.Go.OpenSpec := { _root_.Go.OpenSpec.ofChange s with cond := some uptoSmall }

/-- 'annalistlaw2.GranuleIndex', WHERE WHAT IT READS IS OF BULK AT MOST 1048576: true; the input reads as it did. -/
def granuleIndexUptoRow : OpenClaim := { program := "ytjphkgnngkbgcaadoor", sum := "21c654b90423c38e3deed1dd192a46d62d70646872e3b06165a78a6134a8b7db", func := "annalist/annalistlaw2.GranuleIndex", spec := "granuleIndex", named := ["annalist/granule.longYears"], apart := false, laid := [("annalist/granule.longYears", laid_annalist_granule_longYears)], narrowed := true }
def GranuleIndexUptoSaid : Prop := granuleIndexUptoRow.holds Tryd.pinned (OpenSpec.upto granuleIndexSpec)

/-- 'annalistlaw2.GranuleSpan', WHERE WHAT IT READS IS OF BULK AT MOST 1048576: true; the input reads as it did. -/
def granuleSpanUptoRow : OpenClaim := { program := "ytjphkgnngkbgcaadoor", sum := "21c654b90423c38e3deed1dd192a46d62d70646872e3b06165a78a6134a8b7db", func := "annalist/annalistlaw2.GranuleSpan", spec := "granuleSpan", named := ["annalist/granule.longYears"], apart := false, laid := [("annalist/granule.longYears", laid_annalist_granule_longYears)], narrowed := true }
def GranuleSpanUptoSaid : Prop := granuleSpanUptoRow.holds Tryd.pinned (OpenSpec.upto granuleSpanSpec)

/-- 'annalistlaw2.GranulePartition', WHERE WHAT IT READS IS OF BULK AT MOST 1048576: true; the input reads as it did. -/
def granulePartitionUptoRow : OpenClaim := { program := "ytjphkgnngkbgcaadoor", sum := "21c654b90423c38e3deed1dd192a46d62d70646872e3b06165a78a6134a8b7db", func := "annalist/annalistlaw2.GranulePartition", spec := "granulePartition", named := ["annalist/granule.longYears"], apart := false, laid := [("annalist/granule.longYears", laid_annalist_granule_longYears)], narrowed := true }
def GranulePartitionUptoSaid : Prop := granulePartitionUptoRow.holds Tryd.pinned (OpenSpec.upto granulePartitionSpec)

/-- 'annalistlaw2.GranuleSplit', WHERE WHAT IT READS IS OF BULK AT MOST 1048576: true; the input reads as it did. -/
def granuleSplitUptoRow : OpenClaim := { program := "ytjphkgnngkbgcaadoor", sum := "21c654b90423c38e3deed1dd192a46d62d70646872e3b06165a78a6134a8b7db", func := "annalist/annalistlaw2.GranuleSplit", spec := "granuleSplit", named := ["annalist/granule.longYears"], apart := false, laid := [("annalist/granule.longYears", laid_annalist_granule_longYears)], narrowed := true }
def GranuleSplitUptoSaid : Prop := granuleSplitUptoRow.holds Tryd.pinned (OpenSpec.upto granuleSplitSpec)

/-- 'annalistlaw2.GranulePieces', WHERE WHAT IT READS IS OF BULK AT MOST 1048576: true; the input reads as it did. -/
def granulePiecesUptoRow : OpenClaim := { program := "ytjphkgnngkbgcaadoor", sum := "21c654b90423c38e3deed1dd192a46d62d70646872e3b06165a78a6134a8b7db", func := "annalist/annalistlaw2.GranulePieces", spec := "granulePieces", named := ["annalist/granule.longYears"], apart := false, laid := [("annalist/granule.longYears", laid_annalist_granule_longYears)], narrowed := true }
def GranulePiecesUptoSaid : Prop := granulePiecesUptoRow.holds Tryd.pinned (OpenSpec.upto granulePiecesSpec)

/-- 'annalistlaw2.GranuleCovering', WHERE WHAT IT READS IS OF BULK AT MOST 1048576: true; the input reads as it did. -/
def granuleCoveringUptoRow : OpenClaim := { program := "ytjphkgnngkbgcaadoor", sum := "21c654b90423c38e3deed1dd192a46d62d70646872e3b06165a78a6134a8b7db", func := "annalist/annalistlaw2.GranuleCovering", spec := "granuleCovering", named := ["annalist/granule.longYears"], apart := false, laid := [("annalist/granule.longYears", laid_annalist_granule_longYears)], narrowed := true }
def GranuleCoveringUptoSaid : Prop := granuleCoveringUptoRow.holds Tryd.pinned (OpenSpec.upto granuleCoveringSpec)

/-- 'annalistlaw2.GranuleMonotone', WHERE WHAT IT READS IS OF BULK AT MOST 1048576: true; the input reads as it did. -/
def granuleMonotoneUptoRow : OpenClaim := { program := "ytjphkgnngkbgcaadoor", sum := "21c654b90423c38e3deed1dd192a46d62d70646872e3b06165a78a6134a8b7db", func := "annalist/annalistlaw2.GranuleMonotone", spec := "granuleMonotone", named := ["annalist/granule.longYears"], apart := false, laid := [("annalist/granule.longYears", laid_annalist_granule_longYears)], narrowed := true }
def GranuleMonotoneUptoSaid : Prop := granuleMonotoneUptoRow.holds Tryd.pinned (OpenSpec.upto granuleMonotoneSpec)

/-- 'annalistlaw2.GranuleLengths', WHERE WHAT IT READS IS OF BULK AT MOST 1048576: true; the input reads as it did. -/
def granuleLengthsUptoRow : OpenClaim := { program := "ytjphkgnngkbgcaadoor", sum := "21c654b90423c38e3deed1dd192a46d62d70646872e3b06165a78a6134a8b7db", func := "annalist/annalistlaw2.GranuleLengths", spec := "granuleLengths", named := ["annalist/granule.longYears"], apart := false, laid := [("annalist/granule.longYears", laid_annalist_granule_longYears)], narrowed := true }
def GranuleLengthsUptoSaid : Prop := granuleLengthsUptoRow.holds Tryd.pinned (OpenSpec.upto granuleLengthsSpec)

end Rows
end Go.Proofs.YtjphkgnngkbgcaaDoor
