/- Sums, differences, products that fit in 64 bits. -/
import Derived.Test.YtdamlnfjhpmpmaaEx
import Derived.Test.YtdamlnfjhpmpmaaBase
namespace Go.Proofs.Ytdamlnfjhpmpmaa
open Go.ChangeShapes Go.WideShapes Go.ChangeAt Go.RowKit

theorem fitB_iff (z : Int) : fitB z = true ↔ -9223372036854775808 ≤ z ∧ z ≤ 9223372036854775807 := by simp [fitB]
theorem wrap_fit (z : Int) (h : fitB z = true) : wrap64 z = z := by rw [fitB_iff] at h; unfold wrap64; omega
theorem fits_add (a b : Int) (ha : -9223372036854775808 ≤ a ∧ a ≤ 9223372036854775807) (hb : -9223372036854775808 ≤ b ∧ b ≤ 9223372036854775807) : (decide (a < wrap64 (a + b)) == decide (0 < b)) = fitB (a + b) := by
  rw [Bool.eq_iff_iff, fitB_iff, beq_iff_eq, decide_eq_decide]
  unfold wrap64; omega
theorem fits_sub (a b : Int) (ha : -9223372036854775808 ≤ a ∧ a ≤ 9223372036854775807) (hb : -9223372036854775808 ≤ b ∧ b ≤ 9223372036854775807) : (decide (wrap64 (a - b) < a) == decide (0 < b)) = fitB (a - b) := by
  rw [Bool.eq_iff_iff, fitB_iff, beq_iff_eq, decide_eq_decide]
  unfold wrap64; omega
theorem wrap_parts (c : Int) : ∃ m, wrap64 c = c - m * 18446744073709551616 ∧ -9223372036854775808 ≤ wrap64 c ∧ wrap64 c ≤ 9223372036854775807 := by
  refine ⟨(c + 9223372036854775808) / 18446744073709551616, ?_, ?_, ?_⟩ <;> (unfold wrap64; omega)
theorem fits_mul (a b : Int) (ha : -9223372036854775808 ≤ a ∧ a ≤ 9223372036854775807) (hb : -9223372036854775808 ≤ b ∧ b ≤ 9223372036854775807) (h0 : b ≠ 0) :
    (wrap64 ((wrap64 (a * b)).tdiv b) = a ∧ ¬ (a = -9223372036854775808 ∧ b = -1)) ↔ fitB (a * b) = true := by
  constructor
  · rintro ⟨h1, h2⟩
    by_cases hm : b = -1
    · subst hm; rw [fitB_iff]; omega
    · obtain ⟨m, e1, e2, e3⟩ := wrap_parts (a * b)
      generalize hp : wrap64 (a * b) = p at *
      have hq := Int.mul_tdiv_add_tmod p b
      have hr := Int.natAbs_tmod p b
      have hlt : (p.tmod b).natAbs < b.natAbs := by rw [hr]; exact Nat.mod_lt _ (by omega)
      have hd := Int.natAbs_tdiv p b
      have hq2 : (p.tdiv b).natAbs ≤ p.natAbs ∧ (b ≠ 1 → (p.tdiv b).natAbs ≤ p.natAbs / 2) := by
        rw [hd]
        refine ⟨Nat.div_le_self _ _, fun h => Nat.div_le_div_left (by omega) (by omega)⟩
      have hqa : p.tdiv b = a := by
        by_cases hb1 : b = 1
        · subst hb1; rw [Int.tdiv_one] at h1 ⊢; unfold wrap64 at h1; omega
        · have := hq2.2 hb1
          unfold wrap64 at h1; omega
      rw [hqa, Int.mul_comm] at hq
      generalize a * b = c at *
      rw [fitB_iff]; omega
  · intro h
    rw [wrap_fit _ h]
    rw [Int.mul_tdiv_cancel _ h0]
    refine ⟨wrap_fit _ ((fitB_iff _).2 ha), fun e => ?_⟩
    obtain ⟨rfl, rfl⟩ := e
    rw [fitB_iff] at h; omega
end Go.Proofs.Ytdamlnfjhpmpmaa
