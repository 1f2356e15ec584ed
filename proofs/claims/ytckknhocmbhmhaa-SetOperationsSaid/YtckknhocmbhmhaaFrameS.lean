/- A slice of periods as an argument: it is only read. -/
import Derived.Test.YtckknhocmbhmhaaRd
import Derived.ProofKit
import Derived.OpenShut
import Derived.Deep.SlicePairs
import Derived.WideKeyArgs
import Derived.ChangeArms
namespace Go.Proofs.Ytckknhocmbhmhaa
open Go.ChangeShapes Go.WideShapes Go.ChangeAt Go.RowKit

theorem laidOutP : laidOutB Try.prog = true := by kernel_rfl
theorem ext_block {w w' : World} (h : Ext w w') {i : Nat} (hi : i < w.heap.size) : w'.heap[i]? = w.heap[i]? := by
  have hk := h.1.2.2 i hi
  cases h1 : w.heap[i]? with
  | none => rw [Array.getElem?_eq_none_iff] at h1; omega
  | some o =>
    rw [h1] at hk
    cases h2 : w'.heap[i]? with
    | none => rw [h2] at hk; cases o <;> simp at hk
    | some o' =>
      rw [h2] at hk
      cases o <;> cases o' <;> simp at hk ⊢
      all_goals first
        | exact hk
        | (obtain ⟨rfl, rfl, _, hj⟩ := hk; exact ⟨Array.ext_getElem? hj, rfl, rfl⟩)
theorem ext_same {w w' : World} (h : Ext w w') {p : MemPlace} (hp : p.block < w.heap.size) : w.sameAt w' p := by
  cases p with
  | cell b o => exact World.cell?_of_block (w := w) (ext_block h hp)
  | map b => exact ext_block h hp
section
variable {H : Type} {enc : TypeId × Value → H} {w : World} {base : Nat} {held : Bool}
theorem open_pers {r : Reach} {b0 : Nat} {v : Value} {d : DataW H} {p : List MemPlace} (hv : Value.okWide Try.prog w r b0 22 v) (h : DataW.Trod enc Try.prog w base (fun _ => true) held 22 v d p) : ∃ l, Rd w v l := by
  obtain ⟨a0, len, cap, rfl⟩ := okWide_slice Try.underlying22 hv
  obtain ⟨fuel, hf⟩ := h
  rcases Go.Deep.open_slice_pairs Try.underlying22 Try.underlying30 (by kernel_rfl) rfl rfl (by kernel_rfl) (by kernel_rfl) hf with ⟨hcs, _⟩ | ⟨a, len', cap', m, n, V0, V1, D0, D1, P0, P1, hcs, _, hl, hm, hmm, _, hx⟩
  · simp [Value.cells] at hcs
    obtain ⟨rfl, rfl, rfl⟩ := hcs
    exact ⟨[], rd_nil w⟩
  · simp [Value.cells] at hcs
    obtain ⟨rfl, rfl, rfl⟩ := hcs
    simp only [if_true] at hmm
    subst hmm
    have hint : ∀ i, i < m → (∃ z, V0 i = .int .i64 z) ∧ ∃ z, V1 i = .int .i64 z := by
      intro i hi
      obtain ⟨_, _, t0, t1⟩ := hx i hi
      obtain ⟨z0, e0, _⟩ := DataW.trod_int Try.underlying3 t0
      obtain ⟨z1, e1, _⟩ := DataW.trod_int Try.underlying3 t1
      simp only [List.cons.injEq, and_true] at e0 e1
      exact ⟨⟨z0, e0⟩, ⟨z1, e1⟩⟩
    refine ⟨(List.range len).map fun i => (intOf (V0 i), intOf (V1 i)), some a, m, by simp, by simpa using hl, hm, (fun e => by cases e), fun i hi => ?_⟩
    have hi' : i < m := by simp at hi; omega
    have hspot : a.spot = none := by
      have h0 := (hx 0 (by omega)).1
      simp only [Nat.zero_mul, Addr.add, if_true] at h0
      cases hs : a.spot with
      | none => rfl
      | some s => unfold World.cell? at h0; simp [hs] at h0; split at h0 <;> cases h0
    obtain ⟨g, o, sp⟩ := a
    simp only at hspot
    subst hspot
    have hadd : ∀ j, (⟨g, o, none⟩ : Addr).add j = ⟨g, o + j, none⟩ := fun j => by unfold Addr.add; split <;> simp_all
    obtain ⟨c0, c1, _, _⟩ := hx i hi'
    obtain ⟨⟨z0, e0⟩, ⟨z1, e1⟩⟩ := hint i hi'
    rw [hadd] at c0 c1
    refine ⟨g, o, rfl, ?_, ?_⟩
    · rw [c0]; simp [e0, intOf]
    · rw [show o + i * 2 + 1 = o + (i * 2 + 1) by omega, c1]; simp [e1, intOf]
end
end Go.Proofs.Ytckknhocmbhmhaa
