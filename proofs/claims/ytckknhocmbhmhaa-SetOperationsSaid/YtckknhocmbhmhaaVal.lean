/- Contracts of the reference's Valid. -/
import Derived.Test.YtckknhocmbhmhaaPV
namespace Go.Proofs.Ytckknhocmbhmhaa
open Go.ChangeShapes Go.WideShapes Go.ChangeAt Go.RowKit

def okV (a b : Int) : Bool := decide (0 ≤ a ∧ a < b ∧ b ≤ 1099511627776)
def okD (a b : Int) : Bool := decide (0 ≤ a ∧ a < b ∧ b ≤ 1000000)
set_option maxHeartbeats 1000000 in
theorem vp_ref (a b : Int) (w : World) : Calls Try.prog 27 #[pv a b] w fun e w' => e = .returned (.bool (okV a b)) ∧ Grown w w' := by
  go_enter Try.func27, Try.ntmps27
  go_wp2
  all_goals
    go_ret
    exact ⟨ret_bool (by rw [Bool.eq_iff_iff]; simp [okV, *] <;> omega), (Grown.refl _).alloc _ _⟩
theorem vp_yes (a b : Int) (w : World) (h : okV a b = true) : Calls Try.prog 27 #[pv a b] w fun e w' => e = .returned (.bool true) ∧ Grown w w' := by
  have := vp_ref a b w; rwa [h] at this
theorem vp_no (a b : Int) (w : World) (h : okV a b = false) : Calls Try.prog 27 #[pv a b] w fun e w' => e = .returned (.bool false) ∧ Grown w w' := by
  have := vp_ref a b w; rwa [h] at this
end Go.Proofs.Ytckknhocmbhmhaa
