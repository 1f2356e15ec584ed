/-
  No cell of these rows narrows 'for every input' (looked for: loops, veiled, ifaces, maps, wideKeys, modest, calm, conditions, laid).
  DERIVED. THE GIVEN ROWS OF THIS SEAT. 8 by the template 'for every input the law returns true; each argument reads behind the call as it read before'; 0 by the template 'total and deterministic' (their statements: YtcankdikbnllkaaGreatTotals.lean).
  GIVEN WITH THE SEED: the statements are not yours to turn. If you find one false, say at which input.
  Laid BY PROGRAM, IN A SANDBOX (cutbox-rows.mjs): the forced cells as the released guide's own fill.sh prints them over the translation 6bfbcac1602c2ff4… (all of the seat's roots in one cut). By AI agents, Wed Nov 11 2026. No macro, syntax, notation, axiom, sorry.
-/
import Derived.Test.YtcankdikbnllkaaGreatChecked
import GoSem.Claim
import GoSem.ClaimJoined
import GoSem.ClaimMapViews
import Derived.JoinedTies
import Derived.KernelRfl
namespace Go.Proofs.YtcankdikbnllkaaGreat
/- THE CELL 'sum', in the pinned program and in every row, IS THE sha256 OF THE DUMP (.gsa) THAT YtcankdikbnllkaaGreatProg.lean LOADS. Nothing in Lean hashes anything: it is a label: what it is worth is what the hold of that sum in a sandbox is worth. -/
noncomputable def Tryz.pinned : Pinned := { name := "ytcankdikbnllkaagreat", sum := "6bfbcac1602c2ff4cd8a975464c558b7983759bfd19d1c4ad6b8a80a041fe60c", checked := Tryz.checked }
namespace Rows
def none {H : Type} : Left H := { results := [], args := [] }

/-- 'annalistlaw10.TupleSlices': WHATEVER THE INPUT: true; the input reads as it did. -/
def tupleSlicesSpec : ChangeSpec := { name := "tupleSlices", fn := fun _ => fun
  | [d1, d2, d3] => { results := [.lit (.bool true)], args := [d1, d2, d3] }
  | _ => none }
def tupleSlicesRow : OpenClaim := { program := "ytcankdikbnllkaagreat", sum := "6bfbcac1602c2ff4cd8a975464c558b7983759bfd19d1c4ad6b8a80a041fe60c", func := "annalist/annalistlaw10.TupleSlices", spec := "tupleSlices", inPlace := ["internal/bytealg.abigen_runtime_cmpstring"], unfollowed := true, recurses := true, apart := false }
def TupleSlicesSaid : Prop := tupleSlicesRow.holds Tryz.pinned (OpenSpec.ofChange tupleSlicesSpec)

/-- ITS FALSE NEIGHBOUR: 'it returns false'. Refute it at one input. -/
def tupleSlicesWrong : ChangeSpec := { name := "tupleSlices", fn := fun _ => fun
  | [d1, d2, d3] => { results := [.lit (.bool false)], args := [d1, d2, d3] }
  | _ => none }
def TupleSlicesWrongFalsely : Prop := tupleSlicesRow.holds Tryz.pinned (OpenSpec.ofChange tupleSlicesWrong)

/-- 'annalistlaw10.TupleNormalize': WHATEVER THE INPUT: true; the input reads as it did. -/
def tupleNormalizeSpec : ChangeSpec := { name := "tupleNormalize", fn := fun _ => fun
  | [d] => { results := [.lit (.bool true)], args := [d] }
  | _ => none }
def tupleNormalizeRow : OpenClaim := { program := "ytcankdikbnllkaagreat", sum := "6bfbcac1602c2ff4cd8a975464c558b7983759bfd19d1c4ad6b8a80a041fe60c", func := "annalist/annalistlaw10.TupleNormalize", spec := "tupleNormalize", inPlace := ["internal/bytealg.abigen_runtime_cmpstring"], unfollowed := true, recurses := true, apart := false }
def TupleNormalizeSaid : Prop := tupleNormalizeRow.holds Tryz.pinned (OpenSpec.ofChange tupleNormalizeSpec)

/-- ITS FALSE NEIGHBOUR: 'it returns false'. Refute it at one input. -/
def tupleNormalizeWrong : ChangeSpec := { name := "tupleNormalize", fn := fun _ => fun
  | [d] => { results := [.lit (.bool false)], args := [d] }
  | _ => none }
def TupleNormalizeWrongFalsely : Prop := tupleNormalizeRow.holds Tryz.pinned (OpenSpec.ofChange tupleNormalizeWrong)

/-- 'annalistlaw10.TupleEquivalent': WHATEVER THE INPUT: true; the input reads as it did. -/
def tupleEquivalentSpec : ChangeSpec := { name := "tupleEquivalent", fn := fun _ => fun
  | [d1, d2] => { results := [.lit (.bool true)], args := [d1, d2] }
  | _ => none }
def tupleEquivalentRow : OpenClaim := { program := "ytcankdikbnllkaagreat", sum := "6bfbcac1602c2ff4cd8a975464c558b7983759bfd19d1c4ad6b8a80a041fe60c", func := "annalist/annalistlaw10.TupleEquivalent", spec := "tupleEquivalent", inPlace := ["internal/bytealg.abigen_runtime_cmpstring"], unfollowed := true, recurses := true, apart := false }
def TupleEquivalentSaid : Prop := tupleEquivalentRow.holds Tryz.pinned (OpenSpec.ofChange tupleEquivalentSpec)

/-- ITS FALSE NEIGHBOUR: 'it returns false'. Refute it at one input. -/
def tupleEquivalentWrong : ChangeSpec := { name := "tupleEquivalent", fn := fun _ => fun
  | [d1, d2] => { results := [.lit (.bool false)], args := [d1, d2] }
  | _ => none }
def TupleEquivalentWrongFalsely : Prop := tupleEquivalentRow.holds Tryz.pinned (OpenSpec.ofChange tupleEquivalentWrong)

/-- 'annalistlaw10.TuplePreserves': WHATEVER THE INPUT: true; the input reads as it did. -/
def tuplePreservesSpec : ChangeSpec := { name := "tuplePreserves", fn := fun _ => fun
  | [d1, d2] => { results := [.lit (.bool true)], args := [d1, d2] }
  | _ => none }
def tuplePreservesRow : OpenClaim := { program := "ytcankdikbnllkaagreat", sum := "6bfbcac1602c2ff4cd8a975464c558b7983759bfd19d1c4ad6b8a80a041fe60c", func := "annalist/annalistlaw10.TuplePreserves", spec := "tuplePreserves", inPlace := ["internal/bytealg.abigen_runtime_cmpstring"], unfollowed := true, recurses := true, apart := false }
def TuplePreservesSaid : Prop := tuplePreservesRow.holds Tryz.pinned (OpenSpec.ofChange tuplePreservesSpec)

/-- ITS FALSE NEIGHBOUR: 'it returns false'. Refute it at one input. -/
def tuplePreservesWrong : ChangeSpec := { name := "tuplePreserves", fn := fun _ => fun
  | [d1, d2] => { results := [.lit (.bool false)], args := [d1, d2] }
  | _ => none }
def TuplePreservesWrongFalsely : Prop := tuplePreservesRow.holds Tryz.pinned (OpenSpec.ofChange tuplePreservesWrong)

/-- 'annalistlaw10.TupleIdempotent': WHATEVER THE INPUT: true; the input reads as it did. -/
def tupleIdempotentSpec : ChangeSpec := { name := "tupleIdempotent", fn := fun _ => fun
  | [d1, d2] => { results := [.lit (.bool true)], args := [d1, d2] }
  | _ => none }
def tupleIdempotentRow : OpenClaim := { program := "ytcankdikbnllkaagreat", sum := "6bfbcac1602c2ff4cd8a975464c558b7983759bfd19d1c4ad6b8a80a041fe60c", func := "annalist/annalistlaw10.TupleIdempotent", spec := "tupleIdempotent", inPlace := ["internal/bytealg.abigen_runtime_cmpstring"], unfollowed := true, recurses := true, apart := false }
def TupleIdempotentSaid : Prop := tupleIdempotentRow.holds Tryz.pinned (OpenSpec.ofChange tupleIdempotentSpec)

/-- ITS FALSE NEIGHBOUR: 'it returns false'. Refute it at one input. -/
def tupleIdempotentWrong : ChangeSpec := { name := "tupleIdempotent", fn := fun _ => fun
  | [d1, d2] => { results := [.lit (.bool false)], args := [d1, d2] }
  | _ => none }
def TupleIdempotentWrongFalsely : Prop := tupleIdempotentRow.holds Tryz.pinned (OpenSpec.ofChange tupleIdempotentWrong)

/-- 'annalistlaw10.TupleUnique': WHATEVER THE INPUT: true; the input reads as it did. -/
def tupleUniqueSpec : ChangeSpec := { name := "tupleUnique", fn := fun _ => fun
  | [d1, d2] => { results := [.lit (.bool true)], args := [d1, d2] }
  | _ => none }
def tupleUniqueRow : OpenClaim := { program := "ytcankdikbnllkaagreat", sum := "6bfbcac1602c2ff4cd8a975464c558b7983759bfd19d1c4ad6b8a80a041fe60c", func := "annalist/annalistlaw10.TupleUnique", spec := "tupleUnique", inPlace := ["internal/bytealg.abigen_runtime_cmpstring"], unfollowed := true, recurses := true, apart := false }
def TupleUniqueSaid : Prop := tupleUniqueRow.holds Tryz.pinned (OpenSpec.ofChange tupleUniqueSpec)

/-- ITS FALSE NEIGHBOUR: 'it returns false'. Refute it at one input. -/
def tupleUniqueWrong : ChangeSpec := { name := "tupleUnique", fn := fun _ => fun
  | [d1, d2] => { results := [.lit (.bool false)], args := [d1, d2] }
  | _ => none }
def TupleUniqueWrongFalsely : Prop := tupleUniqueRow.holds Tryz.pinned (OpenSpec.ofChange tupleUniqueWrong)

/-- 'annalistlaw10.TupleConstant': WHATEVER THE INPUT: true; the input reads as it did. -/
def tupleConstantSpec : ChangeSpec := { name := "tupleConstant", fn := fun _ => fun
  | [d1, d2] => { results := [.lit (.bool true)], args := [d1, d2] }
  | _ => none }
def tupleConstantRow : OpenClaim := { program := "ytcankdikbnllkaagreat", sum := "6bfbcac1602c2ff4cd8a975464c558b7983759bfd19d1c4ad6b8a80a041fe60c", func := "annalist/annalistlaw10.TupleConstant", spec := "tupleConstant", inPlace := ["internal/bytealg.abigen_runtime_cmpstring"], unfollowed := true, recurses := true, apart := false }
def TupleConstantSaid : Prop := tupleConstantRow.holds Tryz.pinned (OpenSpec.ofChange tupleConstantSpec)

/-- ITS FALSE NEIGHBOUR: 'it returns false'. Refute it at one input. -/
def tupleConstantWrong : ChangeSpec := { name := "tupleConstant", fn := fun _ => fun
  | [d1, d2] => { results := [.lit (.bool false)], args := [d1, d2] }
  | _ => none }
def TupleConstantWrongFalsely : Prop := tupleConstantRow.holds Tryz.pinned (OpenSpec.ofChange tupleConstantWrong)

/-- 'annalistlaw10.TupleKeepsChanges': WHATEVER THE INPUT: true; the input reads as it did. -/
def tupleKeepsChangesSpec : ChangeSpec := { name := "tupleKeepsChanges", fn := fun _ => fun
  | [d1, d2, d3] => { results := [.lit (.bool true)], args := [d1, d2, d3] }
  | _ => none }
def tupleKeepsChangesRow : OpenClaim := { program := "ytcankdikbnllkaagreat", sum := "6bfbcac1602c2ff4cd8a975464c558b7983759bfd19d1c4ad6b8a80a041fe60c", func := "annalist/annalistlaw10.TupleKeepsChanges", spec := "tupleKeepsChanges", inPlace := ["internal/bytealg.abigen_runtime_cmpstring"], unfollowed := true, recurses := true, apart := false }
def TupleKeepsChangesSaid : Prop := tupleKeepsChangesRow.holds Tryz.pinned (OpenSpec.ofChange tupleKeepsChangesSpec)

/-- ITS FALSE NEIGHBOUR: 'it returns false'. Refute it at one input. -/
def tupleKeepsChangesWrong : ChangeSpec := { name := "tupleKeepsChanges", fn := fun _ => fun
  | [d1, d2, d3] => { results := [.lit (.bool false)], args := [d1, d2, d3] }
  | _ => none }
def TupleKeepsChangesWrongFalsely : Prop := tupleKeepsChangesRow.holds Tryz.pinned (OpenSpec.ofChange tupleKeepsChangesWrong)

/- THE SECOND FORM. 'bulk': how many values and letters a reading holds, each counted each time it is reached (what is shared counts as often as it is met; a slice's spare places count too). A statement '..UptoSaid' is the law's where the arguments, and the package variables that the reading takes, are together of bulk at most 1048576: NARROWER than '..Said'. Prove '..Said' where nothing that the law and all that it calls make is longer than what came in: it says more and counts as full. Else prove '..UptoSaid'. A law counts once. -/
mutual
def uptoBulk {H : Type} : DataW H → Nat
  | .lit (.string bytes) => bytes.length + 1
  | .lit _ => 1
  | .nil => 1
  | .ptr d => uptoBulk d + 1
  | .slice elems spare => uptoBulkAll elems + uptoBulkAll spare + 1
  | .agg parts => uptoBulkAll parts + 1
  | .iface _ d => uptoBulk d + 1
  | .map entries => uptoBulkEntries entries + 1
  | .held _ => 1
def uptoBulkAll {H : Type} : List (DataW H) → Nat
  | [] => 0
  | d :: r => uptoBulk d + uptoBulkAll r
def uptoBulkEntries {H : Type} : List (Lit × DataW H) → Nat
  | [] => 0
  | x :: r => uptoBulkEntry x + uptoBulkEntries r
def uptoBulkEntry {H : Type} : Lit × DataW H → Nat
  | (.string bytes, d) => bytes.length + uptoBulk d + 1
  | (_, d) => uptoBulk d + 1
 end
def uptoSmall : (H : Type) → List (DataW H) → Bool := fun _ ds => decide (uptoBulkAll ds ≤ 1048576)
def OpenSpec.upto (s : _root_.Go.ChangeSpec) : _root_.Go.OpenSpec := { _root_.Go.OpenSpec.ofChange s with cond := some uptoSmall }

/-- 'annalistlaw10.TupleSlices', WHERE WHAT IT READS IS OF BULK AT MOST 1048576: true; the input reads as it did. -/
def tupleSlicesUptoRow : OpenClaim := { program := "ytcankdikbnllkaagreat", sum := "6bfbcac1602c2ff4cd8a975464c558b7983759bfd19d1c4ad6b8a80a041fe60c", func := "annalist/annalistlaw10.TupleSlices", spec := "tupleSlices", inPlace := ["internal/bytealg.abigen_runtime_cmpstring"], unfollowed := true, recurses := true, apart := false, narrowed := true }
def TupleSlicesUptoSaid : Prop := tupleSlicesUptoRow.holds Tryz.pinned (OpenSpec.upto tupleSlicesSpec)

/-- 'annalistlaw10.TupleNormalize', WHERE WHAT IT READS IS OF BULK AT MOST 1048576: true; the input reads as it did. -/
def tupleNormalizeUptoRow : OpenClaim := { program := "ytcankdikbnllkaagreat", sum := "6bfbcac1602c2ff4cd8a975464c558b7983759bfd19d1c4ad6b8a80a041fe60c", func := "annalist/annalistlaw10.TupleNormalize", spec := "tupleNormalize", inPlace := ["internal/bytealg.abigen_runtime_cmpstring"], unfollowed := true, recurses := true, apart := false, narrowed := true }
def TupleNormalizeUptoSaid : Prop := tupleNormalizeUptoRow.holds Tryz.pinned (OpenSpec.upto tupleNormalizeSpec)

/-- 'annalistlaw10.TupleEquivalent', WHERE WHAT IT READS IS OF BULK AT MOST 1048576: true; the input reads as it did. -/
def tupleEquivalentUptoRow : OpenClaim := { program := "ytcankdikbnllkaagreat", sum := "6bfbcac1602c2ff4cd8a975464c558b7983759bfd19d1c4ad6b8a80a041fe60c", func := "annalist/annalistlaw10.TupleEquivalent", spec := "tupleEquivalent", inPlace := ["internal/bytealg.abigen_runtime_cmpstring"], unfollowed := true, recurses := true, apart := false, narrowed := true }
def TupleEquivalentUptoSaid : Prop := tupleEquivalentUptoRow.holds Tryz.pinned (OpenSpec.upto tupleEquivalentSpec)

/-- 'annalistlaw10.TuplePreserves', WHERE WHAT IT READS IS OF BULK AT MOST 1048576: true; the input reads as it did. -/
def tuplePreservesUptoRow : OpenClaim := { program := "ytcankdikbnllkaagreat", sum := "6bfbcac1602c2ff4cd8a975464c558b7983759bfd19d1c4ad6b8a80a041fe60c", func := "annalist/annalistlaw10.TuplePreserves", spec := "tuplePreserves", inPlace := ["internal/bytealg.abigen_runtime_cmpstring"], unfollowed := true, recurses := true, apart := false, narrowed := true }
def TuplePreservesUptoSaid : Prop := tuplePreservesUptoRow.holds Tryz.pinned (OpenSpec.upto tuplePreservesSpec)

/-- 'annalistlaw10.TupleIdempotent', WHERE WHAT IT READS IS OF BULK AT MOST 1048576: true; the input reads as it did. -/
def tupleIdempotentUptoRow : OpenClaim := { program := "ytcankdikbnllkaagreat", sum := "6bfbcac1602c2ff4cd8a975464c558b7983759bfd19d1c4ad6b8a80a041fe60c", func := "annalist/annalistlaw10.TupleIdempotent", spec := "tupleIdempotent", inPlace := ["internal/bytealg.abigen_runtime_cmpstring"], unfollowed := true, recurses := true, apart := false, narrowed := true }
def TupleIdempotentUptoSaid : Prop := tupleIdempotentUptoRow.holds Tryz.pinned (OpenSpec.upto tupleIdempotentSpec)

/-- 'annalistlaw10.TupleUnique', WHERE WHAT IT READS IS OF BULK AT MOST 1048576: true; the input reads as it did. -/
def tupleUniqueUptoRow : OpenClaim := { program := "ytcankdikbnllkaagreat", sum := "6bfbcac1602c2ff4cd8a975464c558b7983759bfd19d1c4ad6b8a80a041fe60c", func := "annalist/annalistlaw10.TupleUnique", spec := "tupleUnique", inPlace := ["internal/bytealg.abigen_runtime_cmpstring"], unfollowed := true, recurses := true, apart := false, narrowed := true }
def TupleUniqueUptoSaid : Prop := tupleUniqueUptoRow.holds Tryz.pinned (OpenSpec.upto tupleUniqueSpec)

/-- 'annalistlaw10.TupleConstant', WHERE WHAT IT READS IS OF BULK AT MOST 1048576: true; the input reads as it did. -/
def tupleConstantUptoRow : OpenClaim := { program := "ytcankdikbnllkaagreat", sum := "6bfbcac1602c2ff4cd8a975464c558b7983759bfd19d1c4ad6b8a80a041fe60c", func := "annalist/annalistlaw10.TupleConstant", spec := "tupleConstant", inPlace := ["internal/bytealg.abigen_runtime_cmpstring"], unfollowed := true, recurses := true, apart := false, narrowed := true }
def TupleConstantUptoSaid : Prop := tupleConstantUptoRow.holds Tryz.pinned (OpenSpec.upto tupleConstantSpec)

/-- 'annalistlaw10.TupleKeepsChanges', WHERE WHAT IT READS IS OF BULK AT MOST 1048576: true; the input reads as it did. -/
def tupleKeepsChangesUptoRow : OpenClaim := { program := "ytcankdikbnllkaagreat", sum := "6bfbcac1602c2ff4cd8a975464c558b7983759bfd19d1c4ad6b8a80a041fe60c", func := "annalist/annalistlaw10.TupleKeepsChanges", spec := "tupleKeepsChanges", inPlace := ["internal/bytealg.abigen_runtime_cmpstring"], unfollowed := true, recurses := true, apart := false, narrowed := true }
def TupleKeepsChangesUptoSaid : Prop := tupleKeepsChangesUptoRow.holds Tryz.pinned (OpenSpec.upto tupleKeepsChangesSpec)

end Rows
end Go.Proofs.YtcankdikbnllkaaGreat
