/- The contract of the reference's SameInts at equal rows. -/
import Derived.Test.YthendocboifjnaaCm4
namespace Go.Proofs.Ythendocboifjnaa
open Go.ChangeShapes Go.WideShapes Go.ChangeAt Go.RowKit

set_option maxHeartbeats 4000000 in
theorem same_ints (l : List Int) (va vb : Value) (w : World) (ha : w.ownsRow 0 3 1 va l.length (cellsI l)) (hb : w.ownsRow 0 3 1 vb l.length (cellsI l)) :
    Calls Try.prog 21 #[va, vb] w fun e w' => e = .returned (.bool true) ∧ Grown w w' := by
  obtain ⟨aa, ca, rfl, hm, xa⟩ := owns_shapeI ha
  obtain ⟨ab, cb, rfl, _, xb⟩ := owns_shapeI hb
  have XA := Lib.hid xa
  have XB := Lib.hid xb
  clear xa xb ha hb
  unfold maxLen at hm
  obtain ⟨n, hn⟩ : ∃ n, n = l.length := ⟨_, rfl⟩
  have HN := Lib.hid hn
  rw [← hn]
  rw [← hn] at hm
  clear hn
  go_enter Try.func21, Try.ntmps21
  go_wp2
  go_loopw [5] (fun i wr => ∃ k : Nat, k ≤ n ∧ i = .int .i64 k ∧ Grown w wr) (fun i _ => n - (intOf i).toNat)
  case atStart => exact ⟨0, by omega, rfl, Grown.refl _⟩
  case round =>
    obtain ⟨k, hk, rfl, hG⟩ := hrel
    by_cases hlt : k < n
    · have hlt' : k < l.length := by rw [← HN.out]; exact hlt
      obtain ⟨ga, rfl, a0⟩ := XA.out k hlt'
      obtain ⟨gb, rfl, b0⟩ := XB.out k hlt'
      have A0 := kept hG a0
      have B0 := kept hG b0
      clear a0 b0
      have hi0 : (0 : Int) ≤ (k : Int) := Int.natCast_nonneg _
      have hi1 : (k : Int) < (n : Int) := by omega
      go_wp2_with fail
      go_quiet (fail)
      go_wp2_with fail
      go_roundw
      case rel => exact ⟨k + 1, by omega, by go_num, grown_drewN' hG _⟩
      case measure => simp [intOf]; omega
    · go_wp2_with fail
      go_ret
      exact ⟨rfl, hG⟩
end Go.Proofs.Ythendocboifjnaa
