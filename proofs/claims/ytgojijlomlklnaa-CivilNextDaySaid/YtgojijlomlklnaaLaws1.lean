/- The walks of the eight laws of chapter 1: each returns true at every input. -/
import Derived.Test.YtgojijlomlklnaaWalk5
namespace Go.Proofs.Ytgojijlomlklnaa
open Go.ChangeShapes Go.WideShapes Go.ChangeAt Go.RowKit

theorem wf_i64 {a : Int} (h : (Lit.int .i64 a).wf = true) : -9223372036854775808 ≤ a ∧ a ≤ 9223372036854775807 := by
  have h1 : IntKind.i64.min = -9223372036854775808 := by decide
  have h2 : IntKind.i64.max = 9223372036854775807 := by decide
  simp [Lit.wf] at h
  omega
theorem wf_u8 {a : Int} (h : (Lit.int .u8 a).wf = true) : 0 ≤ a ∧ a ≤ 255 := by
  have h1 : IntKind.u8.min = 0 := by decide
  have h2 : IntKind.u8.max = 255 := by decide
  simp [Lit.wf] at h
  omega

set_option maxHeartbeats 1000000 in
theorem law_CivilLeap (y m : Int) (w : World) :
    Calls Try.prog 3 #[.int .i64 y, .int .i64 m] w fun e w' => e = .returned (.bool true) ∧ Grown w w' := by
  go_enter Try.func3, Try.ntmps3
  go_wp2_with fail
  refine (awake_law _).mono ?_; rintro e w' ⟨rfl, rfl⟩
  go_wp2_with fail
  refine (leap_civ _ _).mono ?_; rintro e w' ⟨rfl, rfl⟩
  go_wp2_with fail
  refine (leap_ref _ _).mono ?_; rintro e w' ⟨rfl, rfl⟩
  go_wp2_with fail
  refine (dim_civ _ _ _).mono ?_; rintro e w' ⟨rfl, rfl⟩
  go_wp2_with fail
  refine (dim_ref _ _ _).mono ?_; rintro e w1 ⟨rfl, hg⟩
  go_wp2_with fail
  go_ret
  exact ⟨ret_bool (by simp), hg⟩

set_option maxHeartbeats 1000000 in
theorem law_CivilFromDate (y m d : Int) (w : World) (hy : y ≤ 9223372036854775807) :
    Calls Try.prog 4 #[.int .i64 y, .int .i64 m, .int .i64 d] w fun e w' => e = .returned (.bool true) ∧ Grown w w' := by
  go_enter Try.func4, Try.ntmps4
  go_wp2_with fail
  refine (fd_civ _ _ _ _ hy).mono ?_; rintro e w' ⟨rfl, rfl⟩
  go_wp2_with fail
  refine (fd_ref _ _ _ _).mono ?_; rintro e w1 ⟨rfl, hg⟩
  go_wp2_with fail
  refine (awake_law _).mono ?_; rintro e w' ⟨rfl, rfl⟩
  go_wp2_with fail
  go_ret
  exact ⟨ret_bool (by simp), hg⟩

set_option maxHeartbeats 1000000 in
theorem law_CivilToDate (n : Int) (w : World) :
    Calls Try.prog 5 #[.int .i64 n] w fun e w' => e = .returned (.bool true) ∧ Grown w w' := by
  go_enter Try.func5, Try.ntmps5
  go_wp2_with fail
  refine (td_civ _ _).mono ?_; rintro e w' ⟨rfl, rfl⟩
  go_wp2_with fail
  refine (td_ref _ _).mono ?_; rintro e w1 ⟨rfl, hg⟩
  go_wp2_with fail
  refine (awake_law _).mono ?_; rintro e w' ⟨rfl, rfl⟩
  go_wp2_with fail
  refine (wd_civ _ _).mono ?_; rintro e w' ⟨rfl, rfl⟩
  go_wp2_with fail
  refine (wd_ref _ _).mono ?_; rintro e w' ⟨rfl, rfl⟩
  go_wp2_with fail
  go_ret
  exact ⟨ret_bool (by simp), hg⟩

set_option maxHeartbeats 1000000 in
theorem law_CivilAddMonths (n k : Int) (w : World) :
    Calls Try.prog 8 #[.int .i64 n, .int .i64 k] w fun e w' => e = .returned (.bool true) ∧ Grown w w' := by
  go_enter Try.func8, Try.ntmps8
  go_wp2_with fail
  refine (am_civ _ _ _).mono ?_; rintro e w' ⟨rfl, rfl⟩
  go_wp2_with fail
  refine (am_ref _ _ _).mono ?_; rintro e w1 ⟨rfl, hg⟩
  go_wp2_with fail
  refine (awake_law _).mono ?_; rintro e w' ⟨rfl, rfl⟩
  go_wp2_with fail
  go_ret
  exact ⟨ret_bool (by simp), hg⟩
end Go.Proofs.Ytgojijlomlklnaa
