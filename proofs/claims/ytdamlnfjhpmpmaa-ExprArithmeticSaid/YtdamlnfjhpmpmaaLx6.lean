/- The law ExprArithmetic. -/
import Derived.Test.YtdamlnfjhpmpmaaAr2n1
import Derived.Test.YtdamlnfjhpmpmaaAr2n2
import Derived.Test.YtdamlnfjhpmpmaaAr2n3
import Derived.Test.YtdamlnfjhpmpmaaAr2n4
import Derived.Test.YtdamlnfjhpmpmaaAr2yes
import Derived.Test.YtdamlnfjhpmpmaaLx1
namespace Go.Proofs.Ytdamlnfjhpmpmaa
open Go.ChangeShapes Go.WideShapes Go.ChangeAt Go.RowKit

theorem law_ExprArithmetic (x y : Int) (w : World) (hx : okN x) (hy : okN y) :
    Calls Try.prog 9 #[.int .i64 x, .int .i64 y] w fun e w' => e = .returned (.bool true) ∧ Ext w w' := by
  have c5 := ar5c x y hx hy
  have c6 := ar6c x y hx hy
  have hln := oneI_eq (decide (x < y))
  have hen := oneI_eq (x == y)
  obtain ⟨pk, pn, c4⟩ := ar4e x y hx hy
  have tt : ∀ {p : Prop} [Decidable p], p → decide p = true := fun h => decide_eq_true h
  have ff : ∀ {p : Prop} [Decidable p], ¬ p → decide p = false := fun h => decide_eq_false h
  have hwp : 0 < y → wrap64 (9223372036854775807 - y) = 9223372036854775807 - y := fun h => by unfold okN at hy; unfold wrap64; omega
  have hwn : y < 0 → wrap64 (-9223372036854775808 - y) = -9223372036854775808 - y := fun h => by unfold okN at hy; unfold wrap64; omega
  have fit : (fitB (x + y) = true ↔ -9223372036854775808 ≤ x + y ∧ x + y ≤ 9223372036854775807) := fitB_iff _
  have fno : ¬ (-9223372036854775808 ≤ x + y ∧ x + y ≤ 9223372036854775807) → fitB (x + y) = false := fun h => by
    cases hh : fitB (x + y) with
    | false => rfl
    | true => exact absurd (fit.1 hh) h
  unfold okN at hx hy
  by_cases h1 : -2147483648 ≤ x
  case neg =>
    by_cases p1 : 0 < y
    · by_cases q : 9223372036854775807 - y < x
      · skip
        exact arw_n1_po x y _ _ _ _ w (ff h1) (tt (by omega)) _ (hwp p1) (tt (by omega)) (ar2n x y hx hy (fno (by omega))) (ar3n x y hx hy (fno (by omega))) c4 c5 c6 hln hen
      · skip
        exact arw_n1_pn x y _ _ _ _ _ w (ff h1) (tt (by omega)) _ (hwp p1) (ff (by omega)) (ff (by omega)) (ar2y x y hx hy (fit.2 (by omega))) (ar3y x y hx hy (fit.2 (by omega))) c4 c5 c6 hln hen
    by_cases p2 : y < 0
    · by_cases q : x < -9223372036854775808 - y
      · skip
        exact arw_n1_no x y _ _ _ _ w (ff h1) (ff (by omega)) (tt (by omega)) _ (hwn p2) (tt (by omega)) (ar2n x y hx hy (fno (by omega))) (ar3n x y hx hy (fno (by omega))) c4 c5 c6 hln hen
      · skip
        exact arw_n1_nn x y _ _ _ _ _ w (ff h1) (ff (by omega)) (tt (by omega)) _ (hwn p2) (ff (by omega)) (ar2y x y hx hy (fit.2 (by omega))) (ar3y x y hx hy (fit.2 (by omega))) c4 c5 c6 hln hen
    exact arw_n1_z x y _ _ _ _ _ w (ff h1) (ff (by omega)) (ff (by omega)) (ar2y x y hx hy (fit.2 (by omega))) (ar3y x y hx hy (fit.2 (by omega))) c4 c5 c6 hln hen
  by_cases h2 : x < 2147483648
  case neg =>
    by_cases p1 : 0 < y
    · by_cases q : 9223372036854775807 - y < x
      · skip
        exact arw_n2_po x y _ _ _ _ w (tt h1) (ff h2) (tt (by omega)) _ (hwp p1) (tt (by omega)) (ar2n x y hx hy (fno (by omega))) (ar3n x y hx hy (fno (by omega))) c4 c5 c6 hln hen
      · skip
        exact arw_n2_pn x y _ _ _ _ _ w (tt h1) (ff h2) (tt (by omega)) _ (hwp p1) (ff (by omega)) (ff (by omega)) (ar2y x y hx hy (fit.2 (by omega))) (ar3y x y hx hy (fit.2 (by omega))) c4 c5 c6 hln hen
    by_cases p2 : y < 0
    · by_cases q : x < -9223372036854775808 - y
      · skip
        exact arw_n2_no x y _ _ _ _ w (tt h1) (ff h2) (ff (by omega)) (tt (by omega)) _ (hwn p2) (tt (by omega)) (ar2n x y hx hy (fno (by omega))) (ar3n x y hx hy (fno (by omega))) c4 c5 c6 hln hen
      · skip
        exact arw_n2_nn x y _ _ _ _ _ w (tt h1) (ff h2) (ff (by omega)) (tt (by omega)) _ (hwn p2) (ff (by omega)) (ar2y x y hx hy (fit.2 (by omega))) (ar3y x y hx hy (fit.2 (by omega))) c4 c5 c6 hln hen
    exact arw_n2_z x y _ _ _ _ _ w (tt h1) (ff h2) (ff (by omega)) (ff (by omega)) (ar2y x y hx hy (fit.2 (by omega))) (ar3y x y hx hy (fit.2 (by omega))) c4 c5 c6 hln hen
  by_cases h3 : -2147483648 ≤ y
  case neg =>
    by_cases p1 : 0 < y
    · by_cases q : 9223372036854775807 - y < x
      · skip
        exact arw_n3_po x y _ _ _ _ w (tt h1) (tt h2) (ff h3) (tt (by omega)) _ (hwp p1) (tt (by omega)) (ar2n x y hx hy (fno (by omega))) (ar3n x y hx hy (fno (by omega))) c4 c5 c6 hln hen
      · skip
        exact arw_n3_pn x y _ _ _ _ _ w (tt h1) (tt h2) (ff h3) (tt (by omega)) _ (hwp p1) (ff (by omega)) (ff (by omega)) (ar2y x y hx hy (fit.2 (by omega))) (ar3y x y hx hy (fit.2 (by omega))) c4 c5 c6 hln hen
    by_cases p2 : y < 0
    · by_cases q : x < -9223372036854775808 - y
      · skip
        exact arw_n3_no x y _ _ _ _ w (tt h1) (tt h2) (ff h3) (ff (by omega)) (tt (by omega)) _ (hwn p2) (tt (by omega)) (ar2n x y hx hy (fno (by omega))) (ar3n x y hx hy (fno (by omega))) c4 c5 c6 hln hen
      · skip
        exact arw_n3_nn x y _ _ _ _ _ w (tt h1) (tt h2) (ff h3) (ff (by omega)) (tt (by omega)) _ (hwn p2) (ff (by omega)) (ar2y x y hx hy (fit.2 (by omega))) (ar3y x y hx hy (fit.2 (by omega))) c4 c5 c6 hln hen
    exact arw_n3_z x y _ _ _ _ _ w (tt h1) (tt h2) (ff h3) (ff (by omega)) (ff (by omega)) (ar2y x y hx hy (fit.2 (by omega))) (ar3y x y hx hy (fit.2 (by omega))) c4 c5 c6 hln hen
  by_cases h4 : y < 2147483648
  case neg =>
    by_cases p1 : 0 < y
    · by_cases q : 9223372036854775807 - y < x
      · skip
        exact arw_n4_po x y _ _ _ _ w (tt h1) (tt h2) (tt h3) (ff h4) (tt (by omega)) _ (hwp p1) (tt (by omega)) (ar2n x y hx hy (fno (by omega))) (ar3n x y hx hy (fno (by omega))) c4 c5 c6 hln hen
      · skip
        exact arw_n4_pn x y _ _ _ _ _ w (tt h1) (tt h2) (tt h3) (ff h4) (tt (by omega)) _ (hwp p1) (ff (by omega)) (ff (by omega)) (ar2y x y hx hy (fit.2 (by omega))) (ar3y x y hx hy (fit.2 (by omega))) c4 c5 c6 hln hen
    by_cases p2 : y < 0
    · by_cases q : x < -9223372036854775808 - y
      · skip
        exact arw_n4_no x y _ _ _ _ w (tt h1) (tt h2) (tt h3) (ff h4) (ff (by omega)) (tt (by omega)) _ (hwn p2) (tt (by omega)) (ar2n x y hx hy (fno (by omega))) (ar3n x y hx hy (fno (by omega))) c4 c5 c6 hln hen
      · skip
        exact arw_n4_nn x y _ _ _ _ _ w (tt h1) (tt h2) (tt h3) (ff h4) (ff (by omega)) (tt (by omega)) _ (hwn p2) (ff (by omega)) (ar2y x y hx hy (fit.2 (by omega))) (ar3y x y hx hy (fit.2 (by omega))) c4 c5 c6 hln hen
    exact arw_n4_z x y _ _ _ _ _ w (tt h1) (tt h2) (tt h3) (ff h4) (ff (by omega)) (ff (by omega)) (ar2y x y hx hy (fit.2 (by omega))) (ar3y x y hx hy (fit.2 (by omega))) c4 c5 c6 hln hen
  by_cases p1 : 0 < y
  · skip
    exact arw_yes_pn x y _ _ _ _ w rfl rfl (tt h1) (tt h2) (tt h3) (tt h4) (tt (by omega)) _ (hwp p1) (ff (by omega)) (ff (by omega)) (ar2y x y hx hy (fit.2 (by omega))) (ar3y x y hx hy (fit.2 (by omega))) (ar4y x y hx hy (small_mul x y h1 h2 h3 h4)) c5 c6 hln hen
  by_cases p2 : y < 0
  · skip
    exact arw_yes_nn x y _ _ _ _ w rfl rfl (tt h1) (tt h2) (tt h3) (tt h4) (ff (by omega)) (tt (by omega)) _ (hwn p2) (ff (by omega)) (ar2y x y hx hy (fit.2 (by omega))) (ar3y x y hx hy (fit.2 (by omega))) (ar4y x y hx hy (small_mul x y h1 h2 h3 h4)) c5 c6 hln hen
  exact arw_yes_z x y _ _ _ _ w rfl rfl (tt h1) (tt h2) (tt h3) (tt h4) (ff (by omega)) (ff (by omega)) (ar2y x y hx hy (fit.2 (by omega))) (ar3y x y hx hy (fit.2 (by omega))) (ar4y x y hx hy (small_mul x y h1 h2 h3 h4)) c5 c6 hln hen
end Go.Proofs.Ytdamlnfjhpmpmaa
