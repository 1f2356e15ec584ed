/- The order of dates' texts is the order of days: plain lists and integers. -/
import Derived.Test.YtpdafoinhpjklaaDoorStr
import GoSem.Op.String
namespace Go.Proofs.YtpdafoinhpjklaaDoor.Cal

theorem bl_cons (x y : UInt8) (s t : List UInt8) : Op.bytesLess (x :: s) (y :: t) = true ↔ x.toNat < y.toNat ∨ (x.toNat = y.toNat ∧ Op.bytesLess s t = true) := by
  rw [Op.bytesLess, Bool.or_eq_true, Bool.and_eq_true, decide_eq_true_eq, beq_iff_eq, UInt8.lt_iff_toNat_lt, UInt8.toNat_inj]
theorem bl_two (m n : Int) (hm : 0 ≤ m) (hn : 0 ≤ n) (s t : List UInt8) : Op.bytesLess (dch (m / 10) :: dch m :: s) (dch (n / 10) :: dch n :: t) = true ↔ m % 100 < n % 100 ∨ (m % 100 = n % 100 ∧ Op.bytesLess s t = true) := by
  rw [bl_cons, bl_cons, dch_toNat, dch_toNat, dch_toNat, dch_toNat]
  by_cases h : Op.bytesLess s t = true <;> simp only [h, and_true, and_false, or_false, Bool.false_eq_true] <;> omega
theorem bl_date (y m d y' m' d' : Int) (h0 : 0 ≤ y) (h1 : y < 10000) (h2 : 0 ≤ m) (h3 : m < 100) (h4 : 0 ≤ d) (h5 : d < 100) (g0 : 0 ≤ y') (g1 : y' < 10000) (g2 : 0 ≤ m') (g3 : m' < 100) (g4 : 0 ≤ d') (g5 : d' < 100) :
    Op.bytesLess (date y m d) (date y' m' d') = true ↔ y < y' ∨ (y = y' ∧ (m < m' ∨ (m = m' ∧ d < d'))) := by
  have e : ∀ z : Int, z / 1000 = z / 100 / 10 := fun z => by omega
  unfold date
  rw [e y, e y', bl_two _ _ (by omega) (by omega), bl_two _ _ (by omega) (by omega), bl_cons, bl_two _ _ (by omega) (by omega), bl_cons, bl_two _ _ (by omega) (by omega)]
  have hn : ¬ Op.bytesLess [] [] = true := by simp [Op.bytesLess]
  simp only [hn, and_false, or_false, Nat.lt_irrefl, false_or, true_and, Bool.false_eq_true]
  rw [show y / 100 % 100 = y / 100 by omega, show y' / 100 % 100 = y' / 100 by omega, show m % 100 = m by omega, show m' % 100 = m' by omega, show d % 100 = d by omega, show d' % 100 = d' by omega]
  constructor
  · rintro (h | ⟨h, k | ⟨k, r⟩⟩)
    · exact Or.inl (by omega)
    · exact Or.inl (by omega)
    · exact Or.inr ⟨by omega, r⟩
  · rintro (h | ⟨h, r⟩)
    · by_cases c : y / 100 < y' / 100
      · exact Or.inl c
      · exact Or.inr ⟨by omega, Or.inl (by omega)⟩
    · subst h; exact Or.inr ⟨rfl, Or.inr ⟨rfl, r⟩⟩
theorem lex_of {a b : Int} (ha : isDayB a = true) (hb : isDayB b = true) (h : tdY a < tdY b ∨ (tdY a = tdY b ∧ (tdM a < tdM b ∨ (tdM a = tdM b ∧ tdD a < tdD b)))) : a < b := by
  obtain ⟨a1, a2, a3, a4, a5, a6, a7⟩ := td_spec a ha
  obtain ⟨b1, b2, b3, b4, b5, b6, b7⟩ := td_spec b hb
  rw [← a7, ← b7]
  rcases h with h | ⟨h, k | ⟨k, r⟩⟩
  · exact num_lt a1 a5 a6 b3 b4 b5 (Or.inl h)
  · exact num_lt a1 a5 a6 b3 b4 b5 (Or.inr ⟨h, k⟩)
  · rw [h, k]; unfold num; omega
theorem fday_order {a b : Int} (ha : isDayB a = true) (hb : isDayB b = true) : Op.bytesLess (fday a) (fday b) = decide (a < b) := by
  obtain ⟨a1, a2, a3, a4, a5, a6, a7⟩ := td_spec a ha
  obtain ⟨b1, b2, b3, b4, b5, b6, b7⟩ := td_spec b hb
  have d1 := dim_bd (tdY a) (tdM a)
  have d2 := dim_bd (tdY b) (tdM b)
  rw [Bool.eq_iff_iff, decide_eq_true_eq, fday_day ha, fday_day hb, bl_date _ _ _ _ _ _ (by omega) (by omega) (by omega) (by omega) (by omega) (by omega) (by omega) (by omega) (by omega) (by omega) (by omega) (by omega)]
  constructor
  · exact lex_of ha hb
  · intro h
    by_cases c : tdY a < tdY b ∨ (tdY a = tdY b ∧ (tdM a < tdM b ∨ (tdM a = tdM b ∧ tdD a < tdD b)))
    · exact c
    · exfalso
      by_cases e : tdY a = tdY b ∧ tdM a = tdM b ∧ tdD a = tdD b
      · obtain ⟨e1, e2, e3⟩ := e
        have : a = b := by rw [← a7, ← b7, e1, e2, e3]
        omega
      · have := lex_of hb ha (by omega)
        omega
end Go.Proofs.YtpdafoinhpjklaaDoor.Cal
