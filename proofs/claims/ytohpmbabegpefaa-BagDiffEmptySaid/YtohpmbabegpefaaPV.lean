/- Periods as values; what a world holds behind a call that leaves what was there as it was. -/
import Derived.Test.YtohpmbabegpefaaExt
import Derived.Deep.RegionHeld3
import Derived.IntWalk
namespace Go.Proofs.Ytohpmbabegpefaa
open Go.ChangeShapes Go.WideShapes Go.ChangeAt Go.RowKit

abbrev pv (a b : Int) : Value := .agg #[.int .i64 a, .int .i64 b]
theorem gcell {W w1 : World} (hg : Grown W w1) : (∀ b o, b < W.heap.size → w1.cell? ⟨b, o, none⟩ = W.cell? ⟨b, o, none⟩) ∧ (∀ a, w1.frozen? a = W.frozen? a) :=
  ⟨fun _ _ h => World.keptBut.cell hg.1 h (fun f => f), hg.2.1⟩

/-- a call that only grows the world leaves what an elder world held -/
theorem heldW {N : Nat} {args : Array Value} {w : World} {R : Ending} (W0 : World) (h : Calls Try.prog N args w fun e w' => e = R ∧ Grown w w') (hG : Grown W0 w) :
    Calls Try.prog N args w fun e w' => e = R ∧ (∀ b o, b < W0.heap.size → w'.cell? ⟨b, o, none⟩ = W0.cell? ⟨b, o, none⟩) ∧ (∀ a, w'.frozen? a = W0.frozen? a) ∧ Grown W0 w' :=
  h.mono fun _ _ ⟨he, hg⟩ => ⟨he, (gcell (grown_trans hG hg)).1, (gcell (grown_trans hG hg)).2, grown_trans hG hg⟩
theorem frozen_new (w : World) (b o : Nat) (h : w.heap.size ≤ b) : w.frozen? ⟨b, o, none⟩ = false := by
  simp [World.frozen?, Array.getElem?_eq_none h]
theorem al0 (w : World) (a b : Value) (t : TypeId) : (w.alloc (.cells #[a, b] t)).cell? ⟨w.heap.size, 0, none⟩ = some a := by rw [World.cell?, (MapKept.heap_alloc w _).1]; rfl
theorem al1 (w : World) (a b : Value) (t : TypeId) : (w.alloc (.cells #[a, b] t)).cell? ⟨w.heap.size, 1, none⟩ = some b := by rw [World.cell?, (MapKept.heap_alloc w _).1]; rfl
theorem alsz (w : World) (o : Obj) : (w.alloc o).heap.size = w.heap.size + 1 := by simp
theorem kept {w w' : World} (hg : Grown w w') {b o : Nat} {v : Value} (h : w.cell? ⟨b, o, none⟩ = some v) : w'.cell? ⟨b, o, none⟩ = some v := by
  rw [(gcell hg).1 _ _ (World.block_lt_of_cell? _ _ h)]; exact h

theorem Ext.alloc {w X : World} (h : Ext w X) (c : Array Value) (t : TypeId) : Ext w (X.alloc (.cells c t)) := h.trans (ext_of_grown ((Grown.refl _).alloc _ _))
theorem Ext.setNew {w X : World} (h : Ext w X) (b o : Nat) (hb : w.heap.size ≤ b) (v : Value) : Ext w (X.setCell ⟨b, o, none⟩ v) := by
  have hk : ∀ i, i < w.heap.size → (X.setCell ⟨b, o, none⟩ v).heap[i]? = X.heap[i]? := fun i hi => Below.heap_setCell _ _ _ _ (by show i ≠ b; omega)
  refine ⟨⟨h.1.1, h.1.2.1, fun i hi => ?_⟩, fun a ha => (World.frozen?_of_block (hk _ ha)).trans (h.2.1 a ha), by simpa [World.setCell] using h.2.2⟩
  rw [hk i hi]
  exact h.1.2.2 i hi
/-- the same with new blocks of whatever kind; S: what the elder world held -/
theorem heldE {N : Nat} {args : Array Value} {w : World} {R : Ending} (W0 : World) (h : Calls Try.prog N args w fun e w' => e = R ∧ Ext w w') (hG : Ext W0 w) :
    Calls Try.prog N args w fun e w' => e = R ∧ (∀ b o, b < W0.heap.size → w'.cell? ⟨b, o, none⟩ = W0.cell? ⟨b, o, none⟩) ∧ Ext W0 w' :=
  h.mono fun _ _ ⟨he, hg⟩ => ⟨he, fun _ _ hb => (hG.trans hg).cell hb, hG.trans hg⟩
theorem Ext.drew {w X : World} (h : Ext w X) : Ext w X.drew := ⟨h.1, h.2.1, h.2.2⟩
end Go.Proofs.Ytohpmbabegpefaa
