/- More calendar arithmetic: when a date is no day; months added; the facts that the laws compare. No program is named here. -/
import Derived.Test.YtpdafoinhpjklaaDoorCal
namespace Go.Proofs.YtpdafoinhpjklaaDoor.Cal

theorem fdB_iff (y m d : Int) : fdB y m d = true ↔ 1600 ≤ y ∧ 1 ≤ d ∧ d ≤ dim y m ∧ num y m d < 1000000 := by unfold fdB; simp
theorem fd_no {y m d : Int} (h : ¬ (1600 ≤ y ∧ 1 ≤ d ∧ d ≤ dim y m ∧ num y m d < 1000000)) : fdB y m d = false := by
  unfold fdB; simpa using h
theorem fdV_no {y m d : Int} (h : fdB y m d = false) : fdV y m d = 0 := by unfold fdV; simp [h]
theorem fdV_yes {y m d : Int} (h : fdB y m d = true) : fdV y m d = num y m d := by unfold fdV; simp [h]
theorem fd_early {y m d : Int} (h : y < 1600) : fdB y m d = false := fd_no (by omega)
theorem fd_late {y m d : Int} (h : 4339 < y) : fdB y m d = false := fd_no (by
  rintro ⟨a, b, c, e⟩
  have := ny_bd y a; have := cum_bd y m; unfold num at e; omega)
theorem fd_small {y m d : Int} (h : d < 1) : fdB y m d = false := fd_no (by omega)
theorem fd_great {y m d : Int} (h : dim y m < d) : fdB y m d = false := fd_no (by omega)
theorem mon_of {y m d : Int} (h1 : 1 ≤ d) (h2 : d ≤ dim y m) : 1 ≤ m ∧ m ≤ 12 := by
  by_cases h : m < 1 ∨ 12 < m
  · have := dim_out y m h; omega
  · omega
theorem isDay_iff (n : Int) : isDayB n = true ↔ 0 ≤ n ∧ n < 1000000 := by unfold isDayB; simp
theorem num_nonneg {y m d : Int} (h : 1600 ≤ y) (h1 : 1 ≤ d) : 0 ≤ num y m d := by
  have := ny_bd y h; have := cum_bd y m; unfold num; omega

/-- what 'the date of day n' is -/
theorem td_spec (n : Int) (h : isDayB n = true) : 1600 ≤ tdY n ∧ tdY n ≤ 4339 ∧ 1 ≤ tdM n ∧ tdM n ≤ 12 ∧ 1 ≤ tdD n ∧ tdD n ≤ dim (tdY n) (tdM n) ∧ num (tdY n) (tdM n) (tdD n) = n := by
  have h' := (isDay_iff n).1 h
  obtain ⟨a, b, c⟩ := yr_spec n h'.1
  rw [ny_succ _ a] at c
  obtain ⟨p, q, r, s⟩ := mo_spec (yr n) (n - ny (yr n)) (by omega) (by omega)
  have := ny_bd _ a
  simp only [tdY, tdM, tdD, h, if_true]
  refine ⟨a, by omega, p, q, by omega, by omega, by unfold num; omega⟩
theorem td_uniq {n y m d : Int} (h : isDayB n = true) (hy : 1600 ≤ y) (h1 : 1 ≤ d) (h2 : d ≤ dim y m) (hn : num y m d = n) : y = tdY n ∧ m = tdM n ∧ d = tdD n := by
  have h' := (isDay_iff n).1 h
  obtain ⟨m1, m2⟩ := mon_of h1 h2
  have hb := cum_bd y m
  have h13 : cum y m + dim y m ≤ 365 + leap y := by
    by_cases e : m = 12
    · subst e; have := cum_succ y 12 (by omega) (by omega); rw [show (12 : Int) + 1 = 13 from rfl, cum_13] at this; omega
    · have := cum_mono y m 13 m1 (by omega) (by omega); rw [cum_13] at this; omega
  have hs := ny_succ y hy
  unfold num at hn
  have e := yr_uniq n y h'.1 (by omega) (by omega)
  have em := mo_uniq y (n - ny y) m m1 m2 (by omega) (by omega)
  simp only [tdY, tdM, tdD, h, if_true]
  rw [← e, ← em]
  exact ⟨rfl, rfl, by omega⟩
theorem td_no {n : Int} (h : isDayB n = false) : tdY n = 0 ∧ tdM n = 0 ∧ tdD n = 0 ∧ wd n = 0 := by
  simp [tdY, tdM, tdD, wd, h]

/-- months added: the month's number from January 1600 on, whether the result is a day, and the day -/
def amK (n k : Int) : Int := (tdY n - 1600) * 12 + tdM n - 1 + k
def amY (n k : Int) : Int := 1600 + amK n k / 12
def amM (n k : Int) : Int := amK n k % 12 + 1
def amD (n k : Int) : Int := min (tdD n) (dim (amY n k) (amM n k))
def amB (n k : Int) : Bool := isDayB n && decide (0 ≤ amK n k) && fdB (amY n k) (amM n k) (amD n k)
def amV (n k : Int) : Int := if amB n k = true then num (amY n k) (amM n k) (amD n k) else 0

theorem am_noday {n k : Int} (h : isDayB n = false) : amB n k = false := by simp [amB, h]
theorem am_neg {n k : Int} (h : amK n k < 0) : amB n k = false := by simp [amB, show ¬ 0 ≤ amK n k by omega]
theorem am_low {n k : Int} (h : k < -40000) : amB n k = false := by
  cases hd : isDayB n
  · exact am_noday hd
  · have := td_spec n hd; exact am_neg (by unfold amK; omega)
theorem am_high {n k : Int} (h : 40000 < k) : amB n k = false := by
  cases hd : isDayB n
  · exact am_noday hd
  · have := td_spec n hd
    have : fdB (amY n k) (amM n k) (amD n k) = false := fd_late (by unfold amY amK; omega)
    simp [amB, this]
theorem amV_no {n k : Int} (h : amB n k = false) : amV n k = 0 := by simp [amV, h]
theorem am_in {n k : Int} (hd : isDayB n = true) (hk : 0 ≤ amK n k) : amB n k = fdB (amY n k) (amM n k) (amD n k) ∧ amV n k = fdV (amY n k) (amM n k) (amD n k) := by
  have e : amB n k = fdB (amY n k) (amM n k) (amD n k) := by simp [amB, hd, hk]
  exact ⟨e, by unfold amV fdV; rw [e]⟩
end Go.Proofs.YtpdafoinhpjklaaDoor.Cal
