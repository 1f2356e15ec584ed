/- Worlds that grow, with new blocks of whatever kind: what was there stays as it was. -/
import Derived.Test.YtohpmbabegpefaaBase
import Derived.Below
import Derived.WalkKit
namespace Go.Proofs.Ytohpmbabegpefaa
open Go.ChangeShapes Go.WideShapes Go.ChangeAt Go.RowKit

/-- what was there stays as it was -/
def Ext (w w' : World) : Prop := w.keptBut w' (fun _ => False) ∧ (∀ a : Addr, a.block < w.heap.size → w'.frozen? a = w.frozen? a) ∧ w.heap.size ≤ w'.heap.size
theorem Ext.refl (w : World) : Ext w w := ⟨World.keptBut_refl _ _, fun _ _ => rfl, Nat.le_refl _⟩
theorem ext_of_grown {w w' : World} (h : Grown w w') : Ext w w' := ⟨h.1, fun a _ => h.2.1 a, h.2.2⟩
theorem Ext.trans {a b c : World} (h : Ext a b) (k : Ext b c) : Ext a c :=
  ⟨World.keptBut_trans h.1 (World.keptBut_mono (fun _ f => f.elim) k.1), fun x hx => (k.2.1 x (Nat.lt_of_lt_of_le hx h.2.2)).trans (h.2.1 x hx), Nat.le_trans h.2.2 k.2.2⟩
theorem ext_of_below {w w' : World} (h : Below w.heap.size w w') : Ext w w' := ⟨h.frame _, fun _ hx => h.frozen hx, h.size⟩
theorem Ext.cell {w w' : World} (h : Ext w w') {b o : Nat} (hb : b < w.heap.size) : w'.cell? ⟨b, o, none⟩ = w.cell? ⟨b, o, none⟩ := World.keptBut.cell h.1 hb (fun f => f)
theorem Ext.keeps {w w' : World} (h : Ext w w') {b o : Nat} {v : Value} (c : w.cell? ⟨b, o, none⟩ = some v) : w'.cell? ⟨b, o, none⟩ = some v := by
  rw [h.cell (World.block_lt_of_cell? _ _ c)]; exact c
theorem Ext.block {w w' : World} (h : Ext w w') {g : Nat} {cur : Array Value} {e : TypeId} {fr : Nat × Nat} (hg : w.heap[g]? = some (.cells cur e fr)) : w'.heap[g]? = some (.cells cur e fr) := by
  have hlt : g < w.heap.size := (Array.getElem?_eq_some_iff.1 hg).1
  have hk := h.1.2.2 g hlt
  rw [hg] at hk
  cases hw : w'.heap[g]? with
  | none => rw [hw] at hk; exact hk
  | some o =>
    rw [hw] at hk
    cases o with
    | cells c' t' fr' =>
      obtain ⟨rfl, rfl, hs, hj⟩ := hk
      have : c' = cur := Array.ext_getElem? (fun j => hj j (fun f => f))
      rw [this]
    | _ => exact hk
theorem Ext.owns {w w' : World} (h : Ext w w') {base : Nat} {e : TypeId} {size : Nat} {v : Value} {n : Nat} {xs : List Value} (ho : w.ownsRow base e size v n xs) : w'.ownsRow base e size v n xs := by
  obtain ⟨h1, h2⟩ := ho
  refine ⟨h1, ?_⟩
  rcases h2 with h2 | ⟨g, cap, cur, hv, hg, hh, r⟩
  · exact Or.inl h2
  · exact Or.inr ⟨g, cap, cur, hv, hg, h.block hh, r⟩
theorem owns_zero {w : World} {base : Nat} {e : TypeId} {size : Nat} {v : Value} {n : Nat} {xs : List Value} (ho : w.ownsRow base e size v n xs) : w.ownsRow 0 e size v n xs := by
  obtain ⟨h1, h2⟩ := ho
  refine ⟨h1, ?_⟩
  rcases h2 with h2 | ⟨g, cap, cur, hv, hg, hh, r⟩
  · exact Or.inl h2
  · exact Or.inr ⟨g, cap, cur, hv, Nat.zero_le _, hh, r⟩
end Go.Proofs.Ytohpmbabegpefaa
