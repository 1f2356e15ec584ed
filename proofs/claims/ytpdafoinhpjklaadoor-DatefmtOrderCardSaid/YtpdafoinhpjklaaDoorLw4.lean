/- The law DatefmtOrder. -/
import Derived.Test.YtpdafoinhpjklaaDoorLw3
import Derived.Test.YtpdafoinhpjklaaDoorOrd
namespace Go.Proofs.YtpdafoinhpjklaaDoor
open Go.ChangeShapes Go.WideShapes Go.ChangeAt Go.RowKit

set_option maxHeartbeats 2000000 in
theorem law_DatefmtOrder (a b : Int) (w : World) (hT : PT w) : Calls Tryd.prog 8 #[.int .i64 a, .int .i64 b] w fun e w' => e = .returned (.bool true) ∧ Ext w w' := by
  have HT := Lib.hid hT
  clear hT
  by_cases ha : 0 ≤ a ∧ a < 1000000
  · by_cases hb : 0 ≤ b ∧ b < 1000000
    · have HO := Lib.hid (Cal.fday_order ((Cal.isDay_iff a).2 ha) ((Cal.isDay_iff b).2 hb))
      obtain ⟨a0, a1⟩ := ha
      obtain ⟨b0, b1⟩ := hb
      by_cases hc : a < b
      · have ho : Op.bytesLess (Cal.fday a) (Cal.fday b) = true := by rw [HO.out]; simpa using hc
        go_enter Tryd.func8, Tryd.ntmps8
        go_wp2_with fail
        refine (isday_ref_yes _ _ a0 a1).mono ?_; rintro e w1 ⟨rfl, rfl⟩
        go_wp2_with fail
        refine (isday_ref_yes _ _ b0 b1).mono ?_; rintro e w1 ⟨rfl, rfl⟩
        go_wp2_with fail
        refine (awake_law _ HT.out).mono ?_; rintro e w1 ⟨rfl, e1⟩
        go_wp2_with fail
        refine (fday_prog _ _ (HT.out.ext e1)).mono ?_; rintro e w2 ⟨rfl, e2⟩
        go_wp2_with fail
        refine (fday_prog _ _ (HT.out.ext (e1.trans e2))).mono ?_; rintro e w3 ⟨rfl, e3⟩
        go_wp2_with fail
        go_ret
        exact ⟨rfl, (e1.trans e2).trans e3⟩
      · have ho : Op.bytesLess (Cal.fday a) (Cal.fday b) = false := by rw [HO.out]; simpa using hc
        go_enter Tryd.func8, Tryd.ntmps8
        go_wp2_with fail
        refine (isday_ref_yes _ _ a0 a1).mono ?_; rintro e w1 ⟨rfl, rfl⟩
        go_wp2_with fail
        refine (isday_ref_yes _ _ b0 b1).mono ?_; rintro e w1 ⟨rfl, rfl⟩
        go_wp2_with fail
        refine (awake_law _ HT.out).mono ?_; rintro e w1 ⟨rfl, e1⟩
        go_wp2_with fail
        refine (fday_prog _ _ (HT.out.ext e1)).mono ?_; rintro e w2 ⟨rfl, e2⟩
        go_wp2_with fail
        refine (fday_prog _ _ (HT.out.ext (e1.trans e2))).mono ?_; rintro e w3 ⟨rfl, e3⟩
        go_wp2_with fail
        go_ret
        exact ⟨ret_bool (a := !decide (a < b)) (by simpa using hc), (e1.trans e2).trans e3⟩
    · obtain ⟨a0, a1⟩ := ha
      go_enter Tryd.func8, Tryd.ntmps8
      go_wp2_with fail
      refine (isday_ref_yes _ _ a0 a1).mono ?_; rintro e w1 ⟨rfl, rfl⟩
      go_wp2_with fail
      refine (isday_ref_no _ _ hb).mono ?_; rintro e w1 ⟨rfl, rfl⟩
      go_wp2_with fail
      refine (awake_law _ HT.out).mono ?_; rintro e w1 ⟨rfl, e1⟩
      go_wp2_with fail
      go_ret
      exact ⟨rfl, e1⟩
  · go_enter Tryd.func8, Tryd.ntmps8
    go_wp2_with fail
    refine (isday_ref_no _ _ ha).mono ?_; rintro e w1 ⟨rfl, rfl⟩
    go_wp2_with fail
    refine (awake_law _ HT.out).mono ?_; rintro e w1 ⟨rfl, e1⟩
    go_wp2_with fail
    go_ret
    exact ⟨rfl, e1⟩
end Go.Proofs.YtpdafoinhpjklaaDoor
