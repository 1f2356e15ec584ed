/- The contract of the reference's SamePeriods at equal rows. -/
import Derived.Test.YtckknhocmbhmhaaPL
import Derived.Deep.QuietTactic
import Derived.BigQuiet
namespace Go.Proofs.Ytckknhocmbhmhaa
open Go.ChangeShapes Go.WideShapes Go.ChangeAt Go.RowKit

theorem grown_drewN {w w' : World} (h : Grown w w') (n : Nat) : Grown w (w'.drewN n) := h
set_option maxHeartbeats 4000000 in
theorem same_ref (l : List (Int × Int)) (va vb : Value) (w : World) (ha : w.ownsRow 0 30 2 va l.length (cellsL l)) (hb : w.ownsRow 0 30 2 vb l.length (cellsL l)) :
    Calls Try.prog 13 #[va, vb] w fun e w' => e = .returned (.bool true) ∧ Grown w w' := by
  obtain ⟨aa, ca, rfl, hm, xa⟩ := owns_shape ha
  obtain ⟨ab, cb, rfl, _, xb⟩ := owns_shape hb
  have XA := Lib.hid xa
  have XB := Lib.hid xb
  clear xa xb ha hb
  unfold maxLen at hm
  obtain ⟨n, hn⟩ : ∃ n, n = l.length := ⟨_, rfl⟩
  have HN := Lib.hid hn
  rw [← hn]
  rw [← hn] at hm
  clear hn
  go_enter Try.func13, Try.ntmps13
  go_wp2
  go_loopw [5] (fun i wr => ∃ k : Nat, k ≤ n ∧ i = .int .i64 k ∧ Grown w wr) (fun i _ => n - (intOf i).toNat)
  case atStart => exact ⟨0, by omega, rfl, Grown.refl _⟩
  case round =>
    obtain ⟨k, hk, rfl, hG⟩ := hrel
    rename_i wr
    by_cases hlt : k < n
    · have hlt' : k < l.length := by rw [← HN.out]; exact hlt
      obtain ⟨ga, rfl, a0, a1⟩ := XA.out k hlt'
      obtain ⟨gb, rfl, b0, b1⟩ := XB.out k hlt'
      have A0 := kept hG a0
      have A1 := kept hG a1
      have B0 := kept hG b0
      have B1 := kept hG b1
      clear a0 a1 b0 b1
      have hi0 : (0 : Int) ≤ (k : Int) := Int.natCast_nonneg _
      have hi1 : (k : Int) < (n : Int) := by omega
      go_wp2_with fail
      go_quiet (fail)
      go_wp2_with fail
      go_roundw
      case rel => exact ⟨k + 1, by omega, by go_num, grown_drewN hG _⟩
      case measure => simp [intOf]; omega
    · go_wp2_with fail
      go_ret
      exact ⟨rfl, hG⟩

end Go.Proofs.Ytckknhocmbhmhaa
