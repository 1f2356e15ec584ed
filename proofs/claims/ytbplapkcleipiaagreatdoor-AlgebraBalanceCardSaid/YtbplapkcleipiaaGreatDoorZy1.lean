/- The laws' Pick. -/
import Derived.Test.YtbplapkcleipiaaGreatDoorZz43
import Derived.Test.YtbplapkcleipiaaGreatDoorZz03
namespace Go.Proofs.YtbplapkcleipiaaGreatDoor
open Go.ChangeShapes Go.WideShapes Go.ChangeAt Go.RowKit

theorem pick_prg (i n : Nat) (w : World) (hi : i ≤ 1000000) (hn0 : 0 < n) (hn : n ≤ 1000000) : Calls Tryz.prog 32 #[.int .i64 i, .int .i64 n] w fun e w' => w = w' ∧ e = .returned (.int .i64 ((i % n : Nat) : Int)) := by
  obtain ⟨m, hm⟩ : ∃ m, m = i % n := ⟨_, rfl⟩
  have hmn : m < n := by rw [hm]; exact Nat.mod_lt _ hn0
  have t1 : Int.tmod (i : Int) (n : Int) = (m : Int) := by rw [Int.tmod_eq_emod_of_nonneg (by omega), hm]; simp
  have t1' : (i : Int) % (n : Int) = (m : Int) := by rw [hm]; simp
  have t2' : ((m : Int) + (n : Int)) % (n : Int) = (m : Int) := by
    rw [Int.add_emod_right]; exact Int.emod_eq_of_lt (by omega) (by omega)
  have t2 : Int.tmod ((m : Int) + (n : Int)) (n : Int) = (m : Int) := by rw [Int.tmod_eq_emod_of_nonneg (by omega)]; exact t2'
  have w1 := wrapI (m : Int) (by omega) (by omega)
  have w2 : wrap64 ((m : Int) + (n : Int)) = (m : Int) + (n : Int) := by unfold wrap64; omega
  have hne : ¬ ((n : Int) = 0) := by omega
  have hne2 : ((n : Int) == 0) = false := by simp; omega
  have hle : ¬ (n : Int) ≤ 0 := by omega
  rw [← hm]
  clear hm
  go_enter Tryz.func32, Tryz.ntmps32
  go_wp2_with fail
  go_ret
  exact ⟨rfl, rfl⟩
theorem pick_zero (i : Nat) (w : World) : Calls Tryz.prog 32 #[.int .i64 i, .int .i64 0] w fun e w' => w = w' ∧ e = .returned (.int .i64 0) := by
  go_enter Tryz.func32, Tryz.ntmps32
  go_wp2_with fail
  go_ret
  exact ⟨rfl, rfl⟩
end Go.Proofs.YtbplapkcleipiaaGreatDoor
/- One cell of a row of the call's own is stored. -/
namespace Go.Proofs.YtbplapkcleipiaaGreatDoor
open Go.ChangeShapes Go.WideShapes Go.ChangeAt Go.RowKit

theorem own_setJ {α : Type} [Enc α] {e : TypeId} {W w : World} {g n cap : Nat} {l : List α} (h : OwnG e W w (.slice (some ⟨g, 0, none⟩) n cap) l) (i j : Nat) (hi : i < l.length) (hj : j < Enc.sz α) (x : α) (u : Value) (hx : Enc.cells x = (Enc.cells l[i]).set j u) :
    OwnG e W (w.setCell ⟨g, i * Enc.sz α + j, none⟩ u) (.slice (some ⟨g, 0, none⟩) n cap) (l.set i x) := by
  have hn : n = l.length := by
    rcases h.1.2 with ⟨e, _⟩ | ⟨g', c', cur, e, _⟩
    · cases e
    · injection e
  subst hn
  have hset : (cellsG l).set (i * Enc.sz α + j) u = cellsG (l.set i x) := by
    have hp := Enc.pos (α := α)
    refine List.ext_getElem? fun q => ?_
    obtain ⟨a, b, hb, rfl⟩ : ∃ a b, b < Enc.sz α ∧ q = a * Enc.sz α + b := ⟨q / Enc.sz α, q % Enc.sz α, Nat.mod_lt _ hp, by rw [Nat.mul_comm]; exact (Nat.div_add_mod q (Enc.sz α)).symm⟩
    by_cases ha : a < l.length
    · rw [cellsG_at (l.set i x) a b (by simpa using ha) hb, List.getElem_set]
      by_cases hia : i = a
      · subst hia
        rw [if_pos rfl, hx]
        by_cases hjb : j = b
        · subst hjb
          have h1 : i * Enc.sz α + j < (cellsG l).length := by
            rw [cellsG_len]
            have : (i + 1) * Enc.sz α ≤ l.length * Enc.sz α := Nat.mul_le_mul_right _ hi
            rw [Nat.add_mul] at this; omega
          rw [List.getElem?_set_self h1, List.getElem?_set_self (by rw [Enc.len]; exact hj)]
        · rw [List.getElem?_set_ne (by omega), List.getElem?_set_ne hjb, cellsG_at l i b hi hb]
      · rw [if_neg hia, List.getElem?_set_ne, cellsG_at l a b ha hb]
        intro e
        rcases Nat.lt_or_gt_of_ne hia with h1 | h1
        · have : (i + 1) * Enc.sz α ≤ a * Enc.sz α := Nat.mul_le_mul_right _ h1
          rw [Nat.add_mul] at this; omega
        · have : (a + 1) * Enc.sz α ≤ i * Enc.sz α := Nat.mul_le_mul_right _ h1
          rw [Nat.add_mul] at this; omega
    · have h2 : l.length * Enc.sz α ≤ a * Enc.sz α := Nat.mul_le_mul_right _ (by omega)
      rw [List.getElem?_eq_none (by rw [List.length_set, cellsG_len]; omega), List.getElem?_eq_none (by rw [cellsG_len, List.length_set]; omega)]
  obtain ⟨s1, s2⟩ := h.1.stored (i * Enc.sz α + j) u
  exact h.grow s2 (by rw [← hset, List.length_set]; exact s1)
end Go.Proofs.YtbplapkcleipiaaGreatDoor
