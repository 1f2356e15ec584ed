/- A slice that the code writes out. -/
import Derived.Test.YtohpmbabegpefaaEnI
namespace Go.Proofs.Ytohpmbabegpefaa
open Go.ChangeShapes Go.WideShapes Go.ChangeAt Go.RowKit

theorem al_g (w : World) (c : Array Value) (t : TypeId) (j : Nat) (v : Value) (h : c[j]? = some v) : (w.alloc (.cells c t)).cell? ⟨w.heap.size, j, none⟩ = some v := al_c w c t j v h
/-- a slice that the code writes out -/
theorem rd_litG {α : Type} [Enc α] (w : World) (l : List α) (c : Array Value) (t : TypeId) (n k : Nat) (hn : n = w.heap.size) (hk : k = l.length) (hl : l.length ≤ 1000) (hc : c.toList = cellsG l) : RdG (w.alloc (.cells c t)) (.slice (some ⟨n, 0, none⟩) k k) l := by
  subst hn hk
  refine ⟨some ⟨w.heap.size, 0, none⟩, l.length, rfl, Nat.le_refl _, by unfold maxLen; omega, fun h => (by cases h), fun i hi => ⟨_, _, rfl, fun j u hu => ?_⟩⟩
  refine al_g w c t _ u ?_
  have hj : j < Enc.sz α := by have := (List.getElem?_eq_some_iff.1 hu).1; rw [Enc.len] at this; exact this
  have e := cellsG_at l i j hi hj
  rw [hu] at e
  rw [← Array.getElem?_toList, hc, Nat.zero_add]
  exact e
end Go.Proofs.Ytohpmbabegpefaa
