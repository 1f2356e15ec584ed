/- Small lemmas that every walk uses. -/
import Derived.Test.YtnckdopphimgoaaRows
import Derived.WalkKit
import Derived.ProofKit
import Derived.OpenShut
import Derived.Lib.Hide
import Derived.Below
import Derived.Deep.RegionHeld3
import Derived.IntWalk
import Derived.Sort.Grow
import Derived.Deep.Draws
import Derived.Laws.OwnMore
import Derived.OwnWalk
namespace Go.Proofs.Ytnckdopphimgoaa
open Go.ChangeShapes Go.WideShapes Go.ChangeAt Go.RowKit

theorem ret_bool {a b : Bool} (h : a = b) : Ending.returned (.bool a) = .returned (.bool b) := by rw [h]
theorem ret_int {k : IntKind} {a b : Int} (h : a = b) : Ending.returned (.int k a) = .returned (.int k b) := by rw [h]
theorem grown_trans {a b c : World} (h : Grown a b) (k : Grown b c) : Grown a c :=
  ⟨World.keptBut_trans h.1 (World.keptBut_mono (fun _ f => f.elim) (World.keptBut_mono (fun _ f => f) k.1)), fun x => (k.2.1 x).trans (h.2.1 x), Nat.le_trans h.2.2 k.2.2⟩

end Go.Proofs.Ytnckdopphimgoaa
/- Worlds that grow, with new blocks of whatever kind: what was there stays «as» it was. -/
namespace Go.Proofs.Ytnckdopphimgoaa
open Go.ChangeShapes Go.WideShapes Go.ChangeAt Go.RowKit

/-- what was there stays «as» it was -/
def Ext (w w' : World) : Prop := w.keptBut w' (fun _ => False) ∧ (∀ a : Addr, a.block < w.heap.size → w'.frozen? a = w.frozen? a) ∧ w.heap.size ≤ w'.heap.size
theorem Ext.refl (w : World) : Ext w w := ⟨World.keptBut_refl _ _, fun _ _ => rfl, Nat.le_refl _⟩
theorem ext_of_grown {w w' : World} (h : Grown w w') : Ext w w' := ⟨h.1, fun a _ => h.2.1 a, h.2.2⟩
theorem Ext.trans {a b c : World} (h : Ext a b) (k : Ext b c) : Ext a c :=
  ⟨World.keptBut_trans h.1 (World.keptBut_mono (fun _ f => f.elim) k.1), fun x hx => (k.2.1 x (Nat.lt_of_lt_of_le hx h.2.2)).trans (h.2.1 x hx), Nat.le_trans h.2.2 k.2.2⟩
theorem ext_of_below {w w' : World} (h : Below w.heap.size w w') : Ext w w' := ⟨h.frame _, fun _ hx => h.frozen hx, h.size⟩
theorem Ext.cell {w w' : World} (h : Ext w w') {b o : Nat} (hb : b < w.heap.size) : w'.cell? ⟨b, o, none⟩ = w.cell? ⟨b, o, none⟩ := World.keptBut.cell h.1 hb (fun f => f)
theorem Ext.keeps {w w' : World} (h : Ext w w') {b o : Nat} {v : Value} (c : w.cell? ⟨b, o, none⟩ = some v) : w'.cell? ⟨b, o, none⟩ = some v := by
  rw [h.cell (World.block_lt_of_cell? _ _ c)]; exact c
theorem Ext.block {w w' : World} (h : Ext w w') {g : Nat} {cur : Array Value} {e : TypeId} {fr : Nat × Nat} (hg : w.heap[g]? = some (.cells cur e fr)) : w'.heap[g]? = some (.cells cur e fr) := by
  have hlt : g < w.heap.size := (Array.getElem?_eq_some_iff.1 hg).1
  have hk := h.1.2.2 g hlt
  rw [hg] at hk
  cases hw : w'.heap[g]? with
  | none => rw [hw] at hk; exact hk
  | some o =>
    rw [hw] at hk
    cases o with
    | cells c' t' fr' =>
      obtain ⟨rfl, rfl, hs, hj⟩ := hk
      have : c' = cur := Array.ext_getElem? (fun j => hj j (fun f => f))
      rw [this]
    | _ => exact hk
theorem Ext.owns {w w' : World} (h : Ext w w') {base : Nat} {e : TypeId} {size : Nat} {v : Value} {n : Nat} {xs : List Value} (ho : w.ownsRow base e size v n xs) : w'.ownsRow base e size v n xs := by
  obtain ⟨h1, h2⟩ := ho
  refine ⟨h1, ?_⟩
  rcases h2 with h2 | ⟨g, cap, cur, hv, hg, hh, r⟩
  · exact Or.inl h2
  · exact Or.inr ⟨g, cap, cur, hv, hg, h.block hh, r⟩
theorem owns_zero {w : World} {base : Nat} {e : TypeId} {size : Nat} {v : Value} {n : Nat} {xs : List Value} (ho : w.ownsRow base e size v n xs) : w.ownsRow 0 e size v n xs := by
  obtain ⟨h1, h2⟩ := ho
  refine ⟨h1, ?_⟩
  rcases h2 with h2 | ⟨g, cap, cur, hv, hg, hh, r⟩
  · exact Or.inl h2
  · exact Or.inr ⟨g, cap, cur, hv, Nat.zero_le _, hh, r⟩
end Go.Proofs.Ytnckdopphimgoaa
/- Periods «as» values; what a world holds behind a call that leaves what was there «as» it was. -/
namespace Go.Proofs.Ytnckdopphimgoaa
open Go.ChangeShapes Go.WideShapes Go.ChangeAt Go.RowKit

abbrev pv (a b : Int) : Value := .agg #[.int .i64 a, .int .i64 b]
theorem gcell {W w1 : World} (hg : Grown W w1) : (∀ b o, b < W.heap.size → w1.cell? ⟨b, o, none⟩ = W.cell? ⟨b, o, none⟩) ∧ (∀ a, w1.frozen? a = W.frozen? a) :=
  ⟨fun _ _ h => World.keptBut.cell hg.1 h (fun f => f), hg.2.1⟩

/-- a call that only grows the world leaves what an elder world held -/
theorem heldW {N : Nat} {args : Array Value} {w : World} {R : Ending} (W0 : World) (h : Calls Try.prog N args w fun e w' => e = R ∧ Grown w w') (hG : Grown W0 w) :
    Calls Try.prog N args w fun e w' => e = R ∧ (∀ b o, b < W0.heap.size → w'.cell? ⟨b, o, none⟩ = W0.cell? ⟨b, o, none⟩) ∧ (∀ a, w'.frozen? a = W0.frozen? a) ∧ Grown W0 w' :=
  h.mono fun _ _ ⟨he, hg⟩ => ⟨he, (gcell (grown_trans hG hg)).1, (gcell (grown_trans hG hg)).2, grown_trans hG hg⟩
theorem frozen_new (w : World) (b o : Nat) (h : w.heap.size ≤ b) : w.frozen? ⟨b, o, none⟩ = false := by
  simp [World.frozen?, Array.getElem?_eq_none h]
theorem al0 (w : World) (a b : Value) (t : TypeId) : (w.alloc (.cells #[a, b] t)).cell? ⟨w.heap.size, 0, none⟩ = some a := by rw [World.cell?, (MapKept.heap_alloc w _).1]; rfl
theorem al1 (w : World) (a b : Value) (t : TypeId) : (w.alloc (.cells #[a, b] t)).cell? ⟨w.heap.size, 1, none⟩ = some b := by rw [World.cell?, (MapKept.heap_alloc w _).1]; rfl
theorem alsz (w : World) (o : Obj) : (w.alloc o).heap.size = w.heap.size + 1 := by simp
theorem kept {w w' : World} (hg : Grown w w') {b o : Nat} {v : Value} (h : w.cell? ⟨b, o, none⟩ = some v) : w'.cell? ⟨b, o, none⟩ = some v := by
  rw [(gcell hg).1 _ _ (World.block_lt_of_cell? _ _ h)]; exact h

theorem Ext.alloc {w X : World} (h : Ext w X) (c : Array Value) (t : TypeId) : Ext w (X.alloc (.cells c t)) := h.trans (ext_of_grown ((Grown.refl _).alloc _ _))
theorem Ext.setNew {w X : World} (h : Ext w X) (b o : Nat) (hb : w.heap.size ≤ b) (v : Value) : Ext w (X.setCell ⟨b, o, none⟩ v) := by
  have hk : ∀ i, i < w.heap.size → (X.setCell ⟨b, o, none⟩ v).heap[i]? = X.heap[i]? := fun i hi => Below.heap_setCell _ _ _ _ (by show i ≠ b; omega)
  refine ⟨⟨h.1.1, h.1.2.1, fun i hi => ?_⟩, fun a ha => (World.frozen?_of_block (hk _ ha)).trans (h.2.1 a ha), by simpa [World.setCell] using h.2.2⟩
  rw [hk i hi]
  exact h.1.2.2 i hi
/-- the same with new blocks of whatever kind; S: what the elder world held -/
theorem heldE {N : Nat} {args : Array Value} {w : World} {R : Ending} (W0 : World) (h : Calls Try.prog N args w fun e w' => e = R ∧ Ext w w') (hG : Ext W0 w) :
    Calls Try.prog N args w fun e w' => e = R ∧ (∀ b o, b < W0.heap.size → w'.cell? ⟨b, o, none⟩ = W0.cell? ⟨b, o, none⟩) ∧ Ext W0 w' :=
  h.mono fun _ _ ⟨he, hg⟩ => ⟨he, fun _ _ hb => (hG.trans hg).cell hb, hG.trans hg⟩
theorem Ext.drew {w X : World} (h : Ext w X) : Ext w X.drew := ⟨h.1, h.2.1, h.2.2⟩
end Go.Proofs.Ytnckdopphimgoaa
/- Worlds that only grow by new blocks and draws. -/
namespace Go.Proofs.Ytnckdopphimgoaa
open Go.ChangeShapes Go.WideShapes Go.ChangeAt Go.RowKit Go.Sort

def Gw (w w' : World) : Prop := ∃ q os, w' = grow (w.drewN q) os
theorem Gw.refl (w : World) : Gw w w := ⟨0, #[], by rw [grow_empty]; rfl⟩
theorem Gw.trans {a b c : World} (h : Gw a b) (k : Gw b c) : Gw a c := by
  obtain ⟨q, os, rfl⟩ := h
  obtain ⟨r, ot, rfl⟩ := k
  refine ⟨q + r, os ++ ot, ?_⟩
  unfold grow World.drewN
  simp [Nat.add_assoc, Array.append_assoc]
theorem Gw.alloc {w X : World} (h : Gw w X) (o : Obj) : Gw w (X.alloc o) := h.trans ⟨0, #[o], by rw [alloc_eq_grow]; rfl⟩
theorem Gw.drew {w X : World} (h : Gw w X) : Gw w X.drew := h.trans ⟨1, #[], by rw [grow_empty]; rfl⟩
theorem Gw.ext {w w' : World} (h : Gw w w') : Ext w w' := by
  obtain ⟨q, os, rfl⟩ := h
  have hk : ∀ i, i < w.heap.size → (grow (w.drewN q) os).heap[i]? = w.heap[i]? := fun i hi => heap_grow_old (w.drewN q) os hi
  refine ⟨⟨rfl, rfl, fun i hi => ?_⟩, fun a ha => World.frozen?_of_block (hk _ ha), ?_⟩
  · rw [hk i hi]
    have := (World.keptBut_refl w (fun _ => False)).2.2 i hi
    exact this
  · show w.heap.size ≤ (grow (w.drewN q) os).heap.size
    rw [size_grow]; exact Nat.le_add_right _ _
end Go.Proofs.Ytnckdopphimgoaa
/- What stays when a row of the call's own grows. -/
namespace Go.Proofs.Ytnckdopphimgoaa
open Go.ChangeShapes Go.WideShapes Go.ChangeAt Go.RowKit

theorem ext_grownBy {w X w5 : World} {row : Option Nat} (h : Ext w X) (hg : X.grownBy w5 row) (hr : ∀ k, row = some k → w.heap.size ≤ k) : Ext w w5 := by
  have hb : ∀ i, i < w.heap.size → w5.heap[i]? = X.heap[i]? := fun i hi => hg.block i (Nat.lt_of_lt_of_le hi h.2.2) (fun e => by have := hr i e.symm; omega)
  refine ⟨⟨hg.os.trans h.1.1, hg.output.trans h.1.2.1, fun i hi => ?_⟩, fun a ha => (World.frozen?_of_block (hb _ ha)).trans (h.2.1 a ha), Nat.le_trans h.2.2 hg.size⟩
  rw [hb i hi]
  exact h.1.2.2 i hi

def lenOf : Value → Nat | .slice _ n _ => n | _ => 0
theorem owns_len {w : World} {base : Nat} {e : TypeId} {size : Nat} {v : Value} {n : Nat} {xs : List Value} (ho : w.ownsRow base e size v n xs) : lenOf v = n := by
  rcases ho.2 with ⟨rfl, rfl⟩ | ⟨g, cap, cur, rfl, _⟩ <;> rfl

theorem grow_cell {X Y : World} {row : Option Nat} (hg : X.grownBy Y row) {b o : Nat} {v : Value} (h : X.cell? ⟨b, o, none⟩ = some v) (hne : ∀ k, row = some k → k ≠ b) : Y.cell? ⟨b, o, none⟩ = some v := by
  rw [World.cell?_of_block (hg.block b (World.block_lt_of_cell? _ _ h) (fun e => hne b e.symm rfl))]; exact h
theorem grow_frozen {X Y : World} {row : Option Nat} (hg : X.grownBy Y row) {b o : Nat} (hb : b < X.heap.size) (h : X.frozen? ⟨b, o, none⟩ = false) (hne : ∀ k, row = some k → k ≠ b) : Y.frozen? ⟨b, o, none⟩ = false := by
  rw [World.frozen?_of_block (hg.block b hb (fun e => hne b e.symm rfl))]; exact h
theorem al2_frozen (w : World) (c d : Array Value) (t u : TypeId) (a : Addr) : ((w.alloc (.cells c t)).alloc (.cells d u)).frozen? a = w.frozen? a := by
  rw [frozen?_alloc_cells, frozen?_alloc_cells]
theorem al2_grown (w : World) (c d : Array Value) (t u : TypeId) : Grown w ((w.alloc (.cells c t)).alloc (.cells d u)) := ((Grown.refl _).alloc _ _).alloc _ _

theorem ext_below {W w w' : World} (h : Ext W w) (k : Below W.heap.size w w') : Ext W w' := by
  have hb : ∀ i, i < W.heap.size → w'.heap[i]? = w.heap[i]? := fun i hi => k.block i hi
  refine ⟨⟨k.os.trans h.1.1, k.output.trans h.1.2.1, fun i hi => ?_⟩, fun a ha => (World.frozen?_of_block (hb _ ha)).trans (h.2.1 a ha), Nat.le_trans h.2.2 k.size⟩
  rw [hb i hi]
  exact h.1.2.2 i hi
end Go.Proofs.Ytnckdopphimgoaa
