/- Worlds that only grow by new blocks and draws. -/
import Derived.Test.YtohpmbabegpefaaPV
import Derived.Sort.Grow
import Derived.Deep.Draws
namespace Go.Proofs.Ytohpmbabegpefaa
open Go.ChangeShapes Go.WideShapes Go.ChangeAt Go.RowKit Go.Sort

def Gw (w w' : World) : Prop := ∃ q os, w' = grow (w.drewN q) os
theorem Gw.refl (w : World) : Gw w w := ⟨0, #[], by rw [grow_empty]; rfl⟩
theorem Gw.trans {a b c : World} (h : Gw a b) (k : Gw b c) : Gw a c := by
  obtain ⟨q, os, rfl⟩ := h
  obtain ⟨r, ot, rfl⟩ := k
  refine ⟨q + r, os ++ ot, ?_⟩
  unfold grow World.drewN
  simp [Nat.add_assoc, Array.append_assoc]
theorem Gw.alloc {w X : World} (h : Gw w X) (o : Obj) : Gw w (X.alloc o) := h.trans ⟨0, #[o], by rw [alloc_eq_grow]; rfl⟩
theorem Gw.drew {w X : World} (h : Gw w X) : Gw w X.drew := h.trans ⟨1, #[], by rw [grow_empty]; rfl⟩
theorem Gw.ext {w w' : World} (h : Gw w w') : Ext w w' := by
  obtain ⟨q, os, rfl⟩ := h
  have hk : ∀ i, i < w.heap.size → (grow (w.drewN q) os).heap[i]? = w.heap[i]? := fun i hi => heap_grow_old (w.drewN q) os hi
  refine ⟨⟨rfl, rfl, fun i hi => ?_⟩, fun a ha => World.frozen?_of_block (hk _ ha), ?_⟩
  · rw [hk i hi]
    have := (World.keptBut_refl w (fun _ => False)).2.2 i hi
    exact this
  · show w.heap.size ≤ (grow (w.drewN q) os).heap.size
    rw [size_grow]; exact Nat.le_add_right _ _
end Go.Proofs.Ytohpmbabegpefaa
