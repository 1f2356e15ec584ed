/- Contracts of period's Valid and Includes. -/
import Derived.Test.YtckknhocmbhmhaaRel
namespace Go.Proofs.Ytckknhocmbhmhaa
open Go.ChangeShapes Go.WideShapes Go.ChangeAt Go.RowKit

set_option maxHeartbeats 1000000 in
theorem vp_per (a b : Int) (w : World) : Calls Try.prog 26 #[pv a b] w fun e w' => e = .returned (.bool (okV a b)) ∧ Grown w w' := by
  go_enter Try.func26, Try.ntmps26
  go_wp2
  all_goals
    go_ret
    exact ⟨ret_bool (by rw [Bool.eq_iff_iff]; simp [okV, *] <;> omega), (Grown.refl _).alloc _ _⟩
theorem vpp_yes (a b : Int) (w : World) (h : okV a b = true) : Calls Try.prog 26 #[pv a b] w fun e w' => e = .returned (.bool true) ∧ Grown w w' := by
  have := vp_per a b w; rwa [h] at this
theorem vpp_no (a b : Int) (w : World) (h : okV a b = false) : Calls Try.prog 26 #[pv a b] w fun e w' => e = .returned (.bool false) ∧ Grown w w' := by
  have := vp_per a b w; rwa [h] at this
set_option maxHeartbeats 1000000 in
theorem inc_per (a b t : Int) (w : World) : Calls Try.prog 24 #[pv a b, .int .i64 t] w fun e w' => e = .returned (.bool (incB a b t)) ∧ Grown w w' := by
  cases h : okV a b
  · have HV := Lib.hid h
    have HD := Lib.hid (show incB a b t = false by simp [incB, h])
    clear h
    go_enter Try.func24, Try.ntmps24
    go_wp2_with fail
    refine (vpp_no _ _ _ HV.out).mono ?_; rintro e w1 ⟨rfl, hg⟩
    go_wp2_with fail
    go_ret
    exact ⟨ret_bool HD.out.symm, grown_trans ((Grown.refl _).alloc _ _) hg⟩
  · have HV := Lib.hid h
    have HD := Lib.hid (show incB a b t = (decide (a ≤ t) && decide (t < b)) by rw [Bool.eq_iff_iff]; simp [incB, h])
    clear h
    go_enter Try.func24, Try.ntmps24
    go_wp2_with fail
    refine (vpp_yes _ _ _ HV.out).mono ?_; rintro e w1 ⟨rfl, hg⟩
    obtain ⟨hc, hf⟩ := gcell hg
    go_wp2
    all_goals
      go_ret
      exact ⟨ret_bool (by rw [HD.out, Bool.eq_iff_iff]; simp [*] <;> omega), grown_trans ((Grown.refl _).alloc _ _) hg⟩
end Go.Proofs.Ytckknhocmbhmhaa
