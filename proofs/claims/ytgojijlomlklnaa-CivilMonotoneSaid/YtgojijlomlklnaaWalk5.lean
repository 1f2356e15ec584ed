/- The contract of the laws' check of fixed dates: it returns true. -/
import Derived.Test.YtgojijlomlklnaaWalk4
namespace Go.Proofs.Ytgojijlomlklnaa
open Go.ChangeShapes Go.WideShapes Go.ChangeAt Go.RowKit

theorem fd_fix1 (w : World) : Calls Try.prog 16 #[.int .i64 2000, .int .i64 1, .int .i64 1] w fun e w' => e = .returned (.tuple #[.int .i64 146097, .bool true]) ∧ w = w' := by
  have h := fd_civ 2000 1 1 w (by omega)
  rwa [show Cal.fdB 2000 1 1 = true from by decide, show Cal.fdV 2000 1 1 = 146097 from by decide] at h
theorem fd_fix2 (w : World) : Calls Try.prog 16 #[.int .i64 1900, .int .i64 2, .int .i64 29] w fun e w' => e = .returned (.tuple #[.int .i64 0, .bool false]) ∧ w = w' := by
  have h := fd_civ 1900 2 29 w (by omega)
  rwa [show Cal.fdB 1900 2 29 = false from by decide, show Cal.fdV 1900 2 29 = 0 from by decide] at h
theorem am_fix (w : World) : Calls Try.prog 22 #[.int .i64 30, .int .i64 1] w fun e w' => e = .returned (.tuple #[.int .i64 59, .bool true]) ∧ w = w' := by
  have h := am_civ 30 1 w
  rwa [show Cal.amB 30 1 = true from by decide, show Cal.amV 30 1 = 59 from by decide] at h
theorem leap_fix1 (w : World) : Calls Try.prog 12 #[.int .i64 2000] w fun e w' => e = .returned (.bool true) ∧ w = w' := by
  have h := leap_civ 2000 w
  rwa [show Cal.leapB 2000 = true from by decide] at h
theorem leap_fix2 (w : World) : Calls Try.prog 12 #[.int .i64 1900] w fun e w' => e = .returned (.bool false) ∧ w = w' := by
  have h := leap_civ 1900 w
  rwa [show Cal.leapB 1900 = false from by decide] at h
theorem dim_fix (w : World) : Calls Try.prog 14 #[.int .i64 1600, .int .i64 2] w fun e w' => e = .returned (.int .i64 29) ∧ w = w' := by
  have h := dim_civ 1600 2 w
  rwa [show Cal.dim 1600 2 = 29 from by decide] at h
theorem wd_fix (w : World) : Calls Try.prog 20 #[.int .i64 0] w fun e w' => e = .returned (.int .i64 6) ∧ w = w' := by
  have h := wd_civ 0 w
  rwa [show Cal.wd 0 = 6 from by decide] at h

set_option maxHeartbeats 1000000 in
theorem awake_law (w : World) : Calls Try.prog 11 #[] w fun e w' => e = .returned (.bool true) ∧ w = w' := by
  go_enter Try.func11, Try.ntmps11
  go_wp2_with fail
  refine (fd_fix1 _).mono ?_; rintro e w' ⟨rfl, rfl⟩
  go_wp2_with fail
  refine (fd_fix2 _).mono ?_; rintro e w' ⟨rfl, rfl⟩
  go_wp2_with fail
  refine (am_fix _).mono ?_; rintro e w' ⟨rfl, rfl⟩
  go_wp2_with fail
  refine (leap_fix1 _).mono ?_; rintro e w' ⟨rfl, rfl⟩
  go_wp2_with fail
  refine (leap_fix2 _).mono ?_; rintro e w' ⟨rfl, rfl⟩
  go_wp2_with fail
  refine (dim_fix _).mono ?_; rintro e w' ⟨rfl, rfl⟩
  go_wp2_with fail
  refine (wd_fix _).mono ?_; rintro e w' ⟨rfl, rfl⟩
  go_wp2_with fail
  go_ret
  exact ⟨rfl, rfl⟩
end Go.Proofs.Ytgojijlomlklnaa
