/- Contracts of period's Valid, ValidDays, Includes, Inverse, and of the reference's Includes, Inverse. -/
import Derived.Test.YthendocboifjnaaRel
namespace Go.Proofs.Ythendocboifjnaa
open Go.ChangeShapes Go.WideShapes Go.ChangeAt Go.RowKit

set_option maxHeartbeats 1000000 in
theorem vp_per (a b : Int) (w : World) : Calls Try.prog 11 #[pv a b] w fun e w' => e = .returned (.bool (okV a b)) ∧ Grown w w' := by
  go_enter Try.func11, Try.ntmps11
  go_wp2
  all_goals
    go_ret
    exact ⟨ret_bool (by rw [Bool.eq_iff_iff]; simp [okV, *] <;> omega), (Grown.refl _).alloc _ _⟩
theorem vpp_yes (a b : Int) (w : World) (h : okV a b = true) : Calls Try.prog 11 #[pv a b] w fun e w' => e = .returned (.bool true) ∧ Grown w w' := by
  have := vp_per a b w; rwa [h] at this
theorem vpp_no (a b : Int) (w : World) (h : okV a b = false) : Calls Try.prog 11 #[pv a b] w fun e w' => e = .returned (.bool false) ∧ Grown w w' := by
  have := vp_per a b w; rwa [h] at this
set_option maxHeartbeats 1000000 in
theorem vd_per (a b : Int) (w : World) : Calls Try.prog 13 #[pv a b] w fun e w' => e = .returned (.bool (okD a b)) ∧ Grown w w' := by
  cases h : okV a b
  · have HV := Lib.hid h
    have HD := Lib.hid (show okD a b = false by simp [okV] at h; simp [okD]; omega)
    clear h
    go_enter Try.func13, Try.ntmps13
    go_wp2_with fail
    refine (vpp_no _ _ _ HV.out).mono ?_; rintro e w1 ⟨rfl, hg⟩
    go_wp2_with fail
    go_ret
    exact ⟨ret_bool HD.out.symm, grown_trans ((Grown.refl _).alloc _ _) hg⟩
  · have HV := Lib.hid h
    have HD := Lib.hid (show okD a b = decide (b ≤ 1000000) by rw [Bool.eq_iff_iff]; simp [okV] at h; simp [okD]; omega)
    clear h
    go_enter Try.func13, Try.ntmps13
    go_wp2_with fail
    refine (vpp_yes _ _ _ HV.out).mono ?_; rintro e w1 ⟨rfl, hg⟩
    obtain ⟨hc, hf⟩ := gcell hg
    go_wp2_with fail
    go_ret
    exact ⟨ret_bool (by rw [HD.out]), grown_trans ((Grown.refl _).alloc _ _) hg⟩
set_option maxHeartbeats 1000000 in
theorem inc_per (a b t : Int) (w : World) : Calls Try.prog 15 #[pv a b, .int .i64 t] w fun e w' => e = .returned (.bool (incB a b t)) ∧ Grown w w' := by
  cases h : okV a b
  · have HV := Lib.hid h
    have HD := Lib.hid (show incB a b t = false by simp [incB, h])
    clear h
    go_enter Try.func15, Try.ntmps15
    go_wp2_with fail
    refine (vpp_no _ _ _ HV.out).mono ?_; rintro e w1 ⟨rfl, hg⟩
    go_wp2_with fail
    go_ret
    exact ⟨ret_bool HD.out.symm, grown_trans ((Grown.refl _).alloc _ _) hg⟩
  · have HV := Lib.hid h
    have HD := Lib.hid (show incB a b t = (decide (a ≤ t) && decide (t < b)) by rw [Bool.eq_iff_iff]; simp [incB, h])
    clear h
    go_enter Try.func15, Try.ntmps15
    go_wp2_with fail
    refine (vpp_yes _ _ _ HV.out).mono ?_; rintro e w1 ⟨rfl, hg⟩
    obtain ⟨hc, hf⟩ := gcell hg
    go_wp2
    all_goals
      go_ret
      exact ⟨ret_bool (by rw [HD.out, Bool.eq_iff_iff]; simp [*] <;> omega), grown_trans ((Grown.refl _).alloc _ _) hg⟩
set_option maxHeartbeats 1000000 in
theorem inc_ref (a b t : Int) (w : World) : Calls Try.prog 16 #[pv a b, .int .i64 t] w fun e w' => e = .returned (.bool (incB a b t)) ∧ Grown w w' := by
  cases h : okV a b
  · have HV := Lib.hid h
    have HD := Lib.hid (show incB a b t = false by simp [incB, h])
    clear h
    go_enter Try.func16, Try.ntmps16
    go_wp2_with fail
    refine (vp_no _ _ _ HV.out).mono ?_; rintro e w1 ⟨rfl, hg⟩
    go_wp2_with fail
    go_ret
    exact ⟨ret_bool HD.out.symm, grown_trans ((Grown.refl _).alloc _ _) hg⟩
  · have HV := Lib.hid h
    have HD := Lib.hid (show incB a b t = (decide (a ≤ t) && decide (t < b)) by rw [Bool.eq_iff_iff]; simp [incB, h])
    clear h
    go_enter Try.func16, Try.ntmps16
    go_wp2_with fail
    refine (vp_yes _ _ _ HV.out).mono ?_; rintro e w1 ⟨rfl, hg⟩
    obtain ⟨hc, hf⟩ := gcell hg
    go_wp2
    all_goals
      go_ret
      exact ⟨ret_bool (by rw [HD.out, Bool.eq_iff_iff]; simp [*] <;> omega), grown_trans ((Grown.refl _).alloc _ _) hg⟩
set_option maxHeartbeats 1000000 in
theorem inv_per (r : Int) (w : World) : Calls Try.prog 19 #[.int .i64 r] w fun e w' => e = .returned (.int .i64 (invF r)) ∧ w = w' := by
  go_enter Try.func19, Try.ntmps19
  go_wp2
  all_goals
    go_ret
    exact ⟨ret_int (by unfold invF; (repeat' split) <;> omega), rfl⟩
set_option maxHeartbeats 1000000 in
theorem inv_ref (r : Int) (w : World) : Calls Try.prog 20 #[.int .i64 r] w fun e w' => e = .returned (.int .i64 (invF r)) ∧ w = w' := by
  go_enter Try.func20, Try.ntmps20
  go_wp2
  all_goals
    go_ret
    exact ⟨ret_int (by unfold invF; (repeat' split) <;> omega), rfl⟩
end Go.Proofs.Ythendocboifjnaa
