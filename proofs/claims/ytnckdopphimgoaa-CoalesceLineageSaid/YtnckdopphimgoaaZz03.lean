/- Rows of numbers. -/
import Derived.Test.YtnckdopphimgoaaZz02
namespace Go.Proofs.Ytnckdopphimgoaa
open Go.ChangeShapes Go.WideShapes Go.ChangeAt Go.RowKit

instance : Enc Int := ⟨1, by decide, fun n => [.int .i64 n], fun _ => rfl, fun a u h => by simp at h; subst h; rfl⟩
def tI : RowT Int := ⟨3, 29, 0, .int .i64 0, 8, Try.underlying29, by kernel_rfl, by rfl, by decide⟩
theorem rd_I {w : World} {ad : Option Addr} {n cap : Nat} {l : List Int} (h : RdG w (.slice ad n cap) l) (i : Nat) (hi : i < l.length) : ∃ g o, ad = some ⟨g, o, none⟩ ∧ w.cell? ⟨g, o + i, none⟩ = some (.int .i64 l[i]) := by
  obtain ⟨g, o, e, c⟩ := h.at i hi
  exact ⟨g, o, e, by have := c 0 _ rfl; simpa [Enc.sz] using this⟩
theorem RdG.shape {α : Type} [Enc α] {w : World} {v : Value} {l : List α} (h : RdG w v l) : ∃ ad cap, v = .slice ad l.length cap ∧ l.length ≤ cap ∧ cap ≤ maxLen := by
  obtain ⟨ad, cap, rfl, h1, h2, _⟩ := h
  exact ⟨ad, cap, rfl, h1, h2⟩
theorem getD_at {α : Type} (l : List α) (d : α) (i : Nat) (h : i < l.length) : l.getD i d = l[i] := by simp [List.getD, h]
theorem al_c (w : World) (c : Array Value) (t : TypeId) (j : Nat) (v : Value) (h : c[j]? = some v) : (w.alloc (.cells c t)).cell? ⟨w.heap.size, j, none⟩ = some v := by
  rw [World.cell?, (MapKept.heap_alloc w _).1]; simpa using h
theorem rd_lit1I (w : World) (z : Int) (t : TypeId) (n : Nat) (hn : n = w.heap.size) : RdG (w.alloc (.cells #[.int .i64 z] t)) (.slice (some ⟨n, 0, none⟩) 1 1) [z] := by
  subst hn
  refine ⟨some ⟨w.heap.size, 0, none⟩, 1, rfl, Nat.le_refl _, by decide, fun h => (by cases h), fun i hi => ?_⟩
  obtain rfl : i = 0 := by simpa using hi
  refine ⟨_, _, rfl, fun j u hu => ?_⟩
  cases j with
  | zero =>
    obtain rfl : Value.int .i64 z = u := by simpa [Enc.cells] using hu
    exact al_c w #[.int .i64 z] t 0 _ rfl
  | succ j => simp [Enc.cells] at hu
theorem cellsI (l : List Int) : cellsG l = l.map (Value.int .i64) := by
  induction l with
  | nil => rfl
  | cons a l ih =>
    have : cellsG (a :: l) = [.int .i64 a] ++ cellsG l := rfl
    rw [this, ih]; rfl
end Go.Proofs.Ytnckdopphimgoaa
