/- Plain calendar arithmetic over the integers: leap years, lengths of months, day numbers of dates, dates of day numbers, months added. No program is named here. -/
import Derived.WalkKit
namespace Go.Proofs.YtpdafoinhpjklaaDoor.Cal

def leapB (y : Int) : Bool := (y.tmod 4 == 0 && y.tmod 100 != 0) || y.tmod 400 == 0
def leap (y : Int) : Int := if leapB y = true then 1 else 0
def dim (y m : Int) : Int :=
  if m = 2 then 28 + leap y
  else if m = 4 ∨ m = 6 ∨ m = 9 ∨ m = 11 then 30
  else if 1 ≤ m ∧ m ≤ 12 then 31 else 0
/-- days from 1 January 1600 to 1 January of the year -/
def ny (y : Int) : Int := 365 * (y - 1600) + (y - 1600 + 3) / 4 - (y - 1600 + 99) / 100 + (y - 1600 + 399) / 400
/-- days of the year before the month (at 13: the days of the year) -/
def cum (y m : Int) : Int :=
  if m ≤ 1 then 0 else if m = 2 then 31 else
  leap y + (if m = 3 then 59 else if m = 4 then 90 else if m = 5 then 120 else if m = 6 then 151 else if m = 7 then 181
    else if m = 8 then 212 else if m = 9 then 243 else if m = 10 then 273 else if m = 11 then 304 else if m = 12 then 334 else 365)
def num (y m d : Int) : Int := ny y + cum y m + d - 1
/-- the date is a day -/
def fdB (y m d : Int) : Bool := decide (1600 ≤ y ∧ 1 ≤ d ∧ d ≤ dim y m ∧ num y m d < 1000000)
def fdV (y m d : Int) : Int := if fdB y m d = true then num y m d else 0
def isDayB (n : Int) : Bool := decide (0 ≤ n ∧ n < 1000000)
/-- the year of a day -/
def yrE (n : Int) : Int := 1600 + (n + 1) * 400 / 146097
def yr (n : Int) : Int := if n < ny (yrE n) then yrE n - 1 else yrE n
/-- the month of the day r of the year y -/
def mo (y r : Int) : Int :=
  if r < cum y 2 then 1 else if r < cum y 3 then 2 else if r < cum y 4 then 3 else if r < cum y 5 then 4 else if r < cum y 6 then 5
  else if r < cum y 7 then 6 else if r < cum y 8 then 7 else if r < cum y 9 then 8 else if r < cum y 10 then 9
  else if r < cum y 11 then 10 else if r < cum y 12 then 11 else 12
def tdY (n : Int) : Int := if isDayB n = true then yr n else 0
def tdM (n : Int) : Int := if isDayB n = true then mo (yr n) (n - ny (yr n)) else 0
def tdD (n : Int) : Int := if isDayB n = true then n - ny (yr n) - cum (yr n) (mo (yr n) (n - ny (yr n))) + 1 else 0
def wd (n : Int) : Int := if isDayB n = true then (n + 5) % 7 + 1 else 0

theorem leap_01 (y : Int) : 0 ≤ leap y ∧ leap y ≤ 1 := by unfold leap; split <;> omega
theorem dim_bd (y m : Int) : 0 ≤ dim y m ∧ dim y m ≤ 31 := by
  have := leap_01 y; unfold dim; repeat' split
  all_goals omega
theorem dim_pos (y m : Int) (h1 : 1 ≤ m) (h2 : m ≤ 12) : 28 ≤ dim y m := by
  have := leap_01 y; unfold dim; repeat' split
  all_goals omega
theorem dim_out (y m : Int) (h : m < 1 ∨ 12 < m) : dim y m = 0 := by
  unfold dim; repeat' split
  all_goals omega
theorem leap_eq (y : Int) (h : 0 ≤ y) : leap y = if (y % 4 = 0 ∧ y % 100 ≠ 0) ∨ y % 400 = 0 then 1 else 0 := by
  unfold leap leapB
  rw [Int.tmod_eq_emod_of_nonneg h, Int.tmod_eq_emod_of_nonneg h, Int.tmod_eq_emod_of_nonneg h]
  simp
theorem ny_succ (y : Int) (h : 1600 ≤ y) : ny (y + 1) = ny y + 365 + leap y := by
  rw [leap_eq y (by omega)]; unfold ny; split <;> omega
theorem ny_mono (a b : Int) (h : a ≤ b) : ny a + 365 * (b - a) ≤ ny b + 1 := by unfold ny; omega
theorem ny_lt (a b : Int) (h : a < b) : ny a < ny b := by unfold ny; omega
theorem ny_bd (a : Int) (h0 : 1600 ≤ a) : 365 * (a - 1600) ≤ ny a ∧ ny a ≤ 366 * (a - 1600) := by unfold ny; omega
theorem cum_bd (y m : Int) : 0 ≤ cum y m ∧ cum y m ≤ 366 := by
  have := leap_01 y; unfold cum; repeat' split
  all_goals omega
theorem cum_succ (y m : Int) (h1 : 1 ≤ m) (h2 : m ≤ 12) : cum y (m + 1) = cum y m + dim y m := by
  have := leap_01 y
  have e : m = 1 ∨ m = 2 ∨ m = 3 ∨ m = 4 ∨ m = 5 ∨ m = 6 ∨ m = 7 ∨ m = 8 ∨ m = 9 ∨ m = 10 ∨ m = 11 ∨ m = 12 := by omega
  rcases e with rfl | rfl | rfl | rfl | rfl | rfl | rfl | rfl | rfl | rfl | rfl | rfl <;> simp [cum, dim] <;> omega
theorem cum_one (y : Int) : cum y 1 = 0 := by simp [cum]
theorem cum_13 (y : Int) : cum y 13 = 365 + leap y := by simp [cum]; omega
theorem cum_mono (y a b : Int) (ha : 1 ≤ a) (hab : a < b) (hb : b ≤ 13) : cum y a + dim y a ≤ cum y b := by
  have := leap_01 y
  rw [← cum_succ y a ha (by omega)]
  unfold cum; repeat' split
  all_goals omega
theorem yr_spec (n : Int) (h0 : 0 ≤ n) : 1600 ≤ yr n ∧ ny (yr n) ≤ n ∧ n < ny (yr n + 1) := by
  unfold yr yrE
  have hb : 0 ≤ (n + 1) * 400 / 146097 := by omega
  have hk : 146097 * ((n + 1) * 400 / 146097) ≤ (n + 1) * 400 ∧ (n + 1) * 400 < 146097 * ((n + 1) * 400 / 146097) + 146097 := by omega
  generalize (n + 1) * 400 / 146097 = b at *
  split
  · rename_i h
    have hb1 : 1 ≤ b := by
      rcases (by omega : b = 0 ∨ 1 ≤ b) with e | k
      · subst e; simp [ny] at h; omega
      · exact k
    refine ⟨by omega, ?_, ?_⟩
    · clear h; unfold ny; omega
    · rw [show 1600 + b - 1 + 1 = 1600 + b by omega]; exact h
  · rename_i h
    refine ⟨by omega, by omega, ?_⟩
    clear h; unfold ny; omega
theorem yr_uniq (n y : Int) (h0 : 0 ≤ n) (h : ny y ≤ n) (h2 : n < ny (y + 1)) : y = yr n := by
  obtain ⟨a, b, c⟩ := yr_spec n h0
  rcases Int.lt_trichotomy y (yr n) with k | k | k
  · have := ny_mono (y + 1) (yr n) (by omega)
    by_cases e : y + 1 = yr n
    · rw [e] at h2; omega
    · have := ny_lt (y + 1) (yr n) (by omega); omega
  · exact k
  · by_cases e : yr n + 1 = y
    · rw [e] at c; omega
    · have := ny_lt (yr n + 1) y (by omega); omega
theorem mo_spec (y r : Int) (h0 : 0 ≤ r) (h1 : r < 365 + leap y) : 1 ≤ mo y r ∧ mo y r ≤ 12 ∧ cum y (mo y r) ≤ r ∧ r < cum y (mo y r) + dim y (mo y r) := by
  have hl := leap_01 y
  unfold mo
  repeat' split
  all_goals (simp [cum, dim] at *; omega)
theorem mo_uniq (y r m : Int) (h1 : 1 ≤ m) (h2 : m ≤ 12) (h3 : cum y m ≤ r) (h4 : r < cum y m + dim y m) : m = mo y r := by
  have h0 : 0 ≤ r := by have := cum_bd y m; omega
  have hl := leap_01 y
  have hlt : r < 365 + leap y := by
    by_cases e : m = 12
    · subst e; have := cum_succ y 12 (by omega) (by omega); rw [show (12 : Int) + 1 = 13 from rfl, cum_13] at this; omega
    · have := cum_mono y m 13 h1 (by omega) (by omega); rw [cum_13] at this; omega
  obtain ⟨a, b, c, d⟩ := mo_spec y r h0 hlt
  rcases Int.lt_trichotomy m (mo y r) with k | k | k
  · have := cum_mono y m (mo y r) h1 k (by omega); omega
  · exact k
  · have := cum_mono y (mo y r) m a k (by omega); omega
end Go.Proofs.YtpdafoinhpjklaaDoor.Cal
