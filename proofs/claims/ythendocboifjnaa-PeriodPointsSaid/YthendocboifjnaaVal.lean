/- Contracts of the reference's Valid and ValidDays. -/
import Derived.Test.YthendocboifjnaaPV
namespace Go.Proofs.Ythendocboifjnaa
open Go.ChangeShapes Go.WideShapes Go.ChangeAt Go.RowKit

def okV (a b : Int) : Bool := decide (0 ≤ a ∧ a < b ∧ b ≤ 1099511627776)
def okD (a b : Int) : Bool := decide (0 ≤ a ∧ a < b ∧ b ≤ 1000000)
set_option maxHeartbeats 1000000 in
theorem vp_ref (a b : Int) (w : World) : Calls Try.prog 12 #[pv a b] w fun e w' => e = .returned (.bool (okV a b)) ∧ Grown w w' := by
  go_enter Try.func12, Try.ntmps12
  go_wp2
  all_goals
    go_ret
    exact ⟨ret_bool (by rw [Bool.eq_iff_iff]; simp [okV, *] <;> omega), (Grown.refl _).alloc _ _⟩
theorem vp_yes (a b : Int) (w : World) (h : okV a b = true) : Calls Try.prog 12 #[pv a b] w fun e w' => e = .returned (.bool true) ∧ Grown w w' := by
  have := vp_ref a b w; rwa [h] at this
theorem vp_no (a b : Int) (w : World) (h : okV a b = false) : Calls Try.prog 12 #[pv a b] w fun e w' => e = .returned (.bool false) ∧ Grown w w' := by
  have := vp_ref a b w; rwa [h] at this
set_option maxHeartbeats 1000000 in
theorem vd_ref (a b : Int) (w : World) : Calls Try.prog 14 #[pv a b] w fun e w' => e = .returned (.bool (okD a b)) ∧ Grown w w' := by
  cases h : okV a b
  · have HV := Lib.hid h
    have HD := Lib.hid (show okD a b = false by simp [okV] at h; simp [okD]; omega)
    clear h
    go_enter Try.func14, Try.ntmps14
    go_wp2_with fail
    refine (vp_no _ _ _ HV.out).mono ?_; rintro e w1 ⟨rfl, hg⟩
    go_wp2_with fail
    go_ret
    exact ⟨ret_bool HD.out.symm, grown_trans ((Grown.refl _).alloc _ _) hg⟩
  · have HV := Lib.hid h
    have HD := Lib.hid (show okD a b = decide (b ≤ 1000000) by rw [Bool.eq_iff_iff]; simp [okV] at h; simp [okD]; omega)
    clear h
    go_enter Try.func14, Try.ntmps14
    go_wp2_with fail
    refine (vp_yes _ _ _ HV.out).mono ?_; rintro e w1 ⟨rfl, hg⟩
    obtain ⟨hc, hf⟩ := gcell hg
    go_wp2_with fail
    go_ret
    exact ⟨ret_bool (by rw [HD.out]), grown_trans ((Grown.refl _).alloc _ _) hg⟩
theorem vd_yes (a b : Int) (w : World) (h : okD a b = true) : Calls Try.prog 14 #[pv a b] w fun e w' => e = .returned (.bool true) ∧ Grown w w' := by
  have := vd_ref a b w; rwa [h] at this
theorem vd_no (a b : Int) (w : World) (h : okD a b = false) : Calls Try.prog 14 #[pv a b] w fun e w' => e = .returned (.bool false) ∧ Grown w w' := by
  have := vd_ref a b w; rwa [h] at this
end Go.Proofs.Ythendocboifjnaa
