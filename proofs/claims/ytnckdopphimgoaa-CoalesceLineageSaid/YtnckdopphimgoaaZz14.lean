/- Five small numbers: what the laws' builders take. -/
import Derived.Test.YtnckdopphimgoaaZz02
namespace Go.Proofs.Ytnckdopphimgoaa
open Go.ChangeShapes Go.WideShapes Go.ChangeAt Go.RowKit

structure Five where
  a : Int
  b : Int
  c : Int
  d : Int
  e : Int
abbrev Five.v (x : Five) : Value := .agg #[.int .u16 x.a, .int .u16 x.b, .int .u16 x.c, .int .u16 x.d, .int .u16 x.e]
def Five.ok (x : Five) : Prop := (0 ≤ x.a ∧ x.a ≤ 65535) ∧ (0 ≤ x.b ∧ x.b ≤ 65535) ∧ (0 ≤ x.c ∧ x.c ≤ 65535) ∧ (0 ≤ x.d ∧ x.d ≤ 65535) ∧ (0 ≤ x.e ∧ x.e ≤ 65535)
instance : Enc Five := ⟨5, by decide, fun x => [.int .u16 x.a, .int .u16 x.b, .int .u16 x.c, .int .u16 x.d, .int .u16 x.e], fun _ => rfl, fun a u h => by simp at h; rcases h with rfl | rfl | rfl | rfl | rfl <;> rfl⟩
theorem rd_Five {w : World} {ad : Option Addr} {n cap : Nat} {l : List Five} (h : RdG w (.slice ad n cap) l) (i : Nat) (hi : i < l.length) : ∃ g o, ad = some ⟨g, o, none⟩ ∧ w.cell? ⟨g, o + i * 5, none⟩ = some (.int .u16 l[i].a) ∧ w.cell? ⟨g, o + i * 5 + 1, none⟩ = some (.int .u16 l[i].b) ∧ w.cell? ⟨g, o + i * 5 + 2, none⟩ = some (.int .u16 l[i].c) ∧ w.cell? ⟨g, o + i * 5 + 3, none⟩ = some (.int .u16 l[i].d) ∧ w.cell? ⟨g, o + i * 5 + 4, none⟩ = some (.int .u16 l[i].e) := by
  obtain ⟨g, o, e, c⟩ := h.at i hi
  exact ⟨g, o, e, c 0 _ rfl, c 1 _ rfl, c 2 _ rfl, c 3 _ rfl, c 4 _ rfl⟩
end Go.Proofs.Ytnckdopphimgoaa
/- One cell of a row of the call's own is stored. -/
namespace Go.Proofs.Ytnckdopphimgoaa
open Go.ChangeShapes Go.WideShapes Go.ChangeAt Go.RowKit

theorem own_setJ {α : Type} [Enc α] {e : TypeId} {W w : World} {g n cap : Nat} {l : List α} (h : OwnG e W w (.slice (some ⟨g, 0, none⟩) n cap) l) (i j : Nat) (hi : i < l.length) (hj : j < Enc.sz α) (x : α) (u : Value) (hx : Enc.cells x = (Enc.cells l[i]).set j u) :
    OwnG e W (w.setCell ⟨g, i * Enc.sz α + j, none⟩ u) (.slice (some ⟨g, 0, none⟩) n cap) (l.set i x) := by
  have hn : n = l.length := by
    rcases h.1.2 with ⟨e, _⟩ | ⟨g', c', cur, e, _⟩
    · cases e
    · injection e
  subst hn
  have hset : (cellsG l).set (i * Enc.sz α + j) u = cellsG (l.set i x) := by
    have hp := Enc.pos (α := α)
    refine List.ext_getElem? fun q => ?_
    obtain ⟨a, b, hb, rfl⟩ : ∃ a b, b < Enc.sz α ∧ q = a * Enc.sz α + b := ⟨q / Enc.sz α, q % Enc.sz α, Nat.mod_lt _ hp, by rw [Nat.mul_comm]; exact (Nat.div_add_mod q (Enc.sz α)).symm⟩
    by_cases ha : a < l.length
    · rw [cellsG_at (l.set i x) a b (by simpa using ha) hb, List.getElem_set]
      by_cases hia : i = a
      · subst hia
        rw [if_pos rfl, hx]
        by_cases hjb : j = b
        · subst hjb
          have h1 : i * Enc.sz α + j < (cellsG l).length := by
            rw [cellsG_len]
            have : (i + 1) * Enc.sz α ≤ l.length * Enc.sz α := Nat.mul_le_mul_right _ hi
            rw [Nat.add_mul] at this; omega
          rw [List.getElem?_set_self h1, List.getElem?_set_self (by rw [Enc.len]; exact hj)]
        · rw [List.getElem?_set_ne (by omega), List.getElem?_set_ne hjb, cellsG_at l i b hi hb]
      · rw [if_neg hia, List.getElem?_set_ne, cellsG_at l a b ha hb]
        intro e
        rcases Nat.lt_or_gt_of_ne hia with h1 | h1
        · have : (i + 1) * Enc.sz α ≤ a * Enc.sz α := Nat.mul_le_mul_right _ h1
          rw [Nat.add_mul] at this; omega
        · have : (a + 1) * Enc.sz α ≤ i * Enc.sz α := Nat.mul_le_mul_right _ h1
          rw [Nat.add_mul] at this; omega
    · have h2 : l.length * Enc.sz α ≤ a * Enc.sz α := Nat.mul_le_mul_right _ (by omega)
      rw [List.getElem?_eq_none (by rw [List.length_set, cellsG_len]; omega), List.getElem?_eq_none (by rw [cellsG_len, List.length_set]; omega)]
  obtain ⟨s1, s2⟩ := h.1.stored (i * Enc.sz α + j) u
  exact h.grow s2 (by rw [← hset, List.length_set]; exact s1)
end Go.Proofs.Ytnckdopphimgoaa
