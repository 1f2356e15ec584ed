/- Blocks of an elder world behind a walk. -/
import Derived.Test.YtohpmbabegpefaaExt
import Derived.ProofKit
import Derived.OpenShut
import Derived.WideKeyArgs
import Derived.ChangeArms
namespace Go.Proofs.Ytohpmbabegpefaa
open Go.ChangeShapes Go.WideShapes Go.ChangeAt Go.RowKit

theorem laidOutP : laidOutB Try.prog = true := by kernel_rfl
theorem ext_block {w w' : World} (h : Ext w w') {i : Nat} (hi : i < w.heap.size) : w'.heap[i]? = w.heap[i]? := by
  have hk := h.1.2.2 i hi
  cases h1 : w.heap[i]? with
  | none => rw [Array.getElem?_eq_none_iff] at h1; omega
  | some o =>
    rw [h1] at hk
    cases h2 : w'.heap[i]? with
    | none => rw [h2] at hk; cases o <;> simp at hk
    | some o' =>
      rw [h2] at hk
      cases o <;> cases o' <;> simp at hk ⊢
      all_goals first
        | exact hk
        | (obtain ⟨rfl, rfl, _, hj⟩ := hk; exact ⟨Array.ext_getElem? hj, rfl, rfl⟩)
theorem ext_same {w w' : World} (h : Ext w w') {p : MemPlace} (hp : p.block < w.heap.size) : w.sameAt w' p := by
  cases p with
  | cell b o => exact World.cell?_of_block (w := w) (ext_block h hp)
  | map b => exact ext_block h hp
end Go.Proofs.Ytohpmbabegpefaa
