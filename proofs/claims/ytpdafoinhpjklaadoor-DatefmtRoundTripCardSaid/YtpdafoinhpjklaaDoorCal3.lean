/- The calendar facts behind the laws of round trip, next day, years and order. No program is named here. -/
import Derived.Test.YtpdafoinhpjklaaDoorCal2
namespace Go.Proofs.YtpdafoinhpjklaaDoor.Cal

theorem fd_of_td {n : Int} (h : isDayB n = true) : fdB (tdY n) (tdM n) (tdD n) = true ∧ fdV (tdY n) (tdM n) (tdD n) = n := by
  obtain ⟨a, b, c, d, e, f, g⟩ := td_spec n h
  have hn := (isDay_iff n).1 h
  have k : fdB (tdY n) (tdM n) (tdD n) = true := (fdB_iff _ _ _).2 ⟨a, e, f, by omega⟩
  exact ⟨k, by rw [fdV_yes k, g]⟩
theorem td_of_fd {y m d : Int} (h : fdB y m d = true) : isDayB (fdV y m d) = true ∧ tdY (fdV y m d) = y ∧ tdM (fdV y m d) = m ∧ tdD (fdV y m d) = d := by
  obtain ⟨a, b, c, e⟩ := (fdB_iff _ _ _).1 h
  have hd : isDayB (fdV y m d) = true := by rw [fdV_yes h]; exact (isDay_iff _).2 ⟨num_nonneg a b, e⟩
  obtain ⟨p, q, r⟩ := td_uniq hd a b c (fdV_yes h).symm
  exact ⟨hd, p.symm, q.symm, r.symm⟩

theorem year_end (y : Int) (hy : 1600 ≤ y) (d : Int) (h : d = dim y 12) : num (y + 1) 1 1 = num y 12 d + 1 := by
  have := ny_succ y hy
  have h2 := cum_succ y 12 (by omega) (by omega)
  rw [show (12 : Int) + 1 = 13 from rfl, cum_13] at h2
  have h3 := cum_one (y + 1)
  unfold num; omega
theorem td_next {n : Int} (h0 : 0 ≤ n) (h1 : n < 999999) :
    (tdD n < dim (tdY n) (tdM n) → tdY (n + 1) = tdY n ∧ tdM (n + 1) = tdM n ∧ tdD (n + 1) = tdD n + 1) ∧
    (tdD n = dim (tdY n) (tdM n) → tdM n < 12 → tdY (n + 1) = tdY n ∧ tdM (n + 1) = tdM n + 1 ∧ tdD (n + 1) = 1) ∧
    (tdD n = dim (tdY n) (tdM n) → tdM n = 12 → tdY (n + 1) = tdY n + 1 ∧ tdM (n + 1) = 1 ∧ tdD (n + 1) = 1) := by
  have hd : isDayB n = true := (isDay_iff n).2 ⟨h0, by omega⟩
  have hd1 : isDayB (n + 1) = true := (isDay_iff _).2 ⟨by omega, by omega⟩
  obtain ⟨a, b, c, d, e, f, g⟩ := td_spec n hd
  generalize tdY n = y at *
  generalize tdM n = m at *
  generalize tdD n = q at *
  refine ⟨fun k => ?_, fun k l => ?_, fun k l => ?_⟩
  · obtain ⟨p, q, r⟩ := td_uniq hd1 a (show 1 ≤ q + 1 by omega) (show q + 1 ≤ dim y m by omega) (by unfold num at *; omega)
    exact ⟨p.symm, q.symm, r.symm⟩
  · have hp := dim_pos y (m + 1) (by omega) (by omega)
    have hs := cum_succ y m c d
    obtain ⟨p, q, r⟩ := td_uniq (y := y) (m := m + 1) (d := 1) hd1 a (by omega) (by omega) (by unfold num at *; omega)
    exact ⟨p.symm, q.symm, r.symm⟩
  · subst l
    have hp := dim_pos (y + 1) 1 (by omega) (by omega)
    obtain ⟨p, q, r⟩ := td_uniq (y := y + 1) (m := 1) (d := 1) hd1 (by omega) (by omega) (by omega) (by rw [year_end y a q k, g])
    exact ⟨p.symm, q.symm, r.symm⟩
theorem wd_next {n : Int} (h0 : 0 ≤ n) (h1 : n < 999999) : wd (n + 1) = wd n % 7 + 1 := by
  have hd : isDayB n = true := (isDay_iff n).2 ⟨h0, by omega⟩
  have hd1 : isDayB (n + 1) = true := (isDay_iff _).2 ⟨by omega, by omega⟩
  simp only [wd, hd, hd1, if_true]; omega

theorem leap_400 (y k : Int) (hy : 1600 ≤ y) (hk : 0 ≤ k) : leap (y + 400 * k) = leap y := by
  rw [leap_eq _ (by omega), leap_eq _ (by omega)]
  have e1 : (y + 400 * k) % 4 = y % 4 := by omega
  have e2 : (y + 400 * k) % 100 = y % 100 := by omega
  have e3 : (y + 400 * k) % 400 = y % 400 := by omega
  rw [e1, e2, e3]
theorem dim_400 (y k m : Int) (hy : 1600 ≤ y) (hk : 0 ≤ k) : dim (y + 400 * k) m = dim y m := by unfold dim; rw [leap_400 y k hy hk]
theorem cum_400 (y k m : Int) (hy : 1600 ≤ y) (hk : 0 ≤ k) : cum (y + 400 * k) m = cum y m := by unfold cum; rw [leap_400 y k hy hk]
theorem ny_400 (y k : Int) : ny (y + 400 * k) = ny y + 146097 * k := by unfold ny; omega
theorem num_400 (y m d k : Int) (hy : 1600 ≤ y) (hk : 0 ≤ k) : num (y + 400 * k) m d = num y m d + 146097 * k := by
  unfold num; rw [cum_400 y k m hy hk, ny_400]; omega
/-- 4800 k months later -/
theorem am_4800 {n k : Int} (h : isDayB n = true) (hk : 0 ≤ k) :
    amY n (4800 * k) = tdY n + 400 * k ∧ amM n (4800 * k) = tdM n ∧ amD n (4800 * k) = tdD n ∧ num (amY n (4800 * k)) (amM n (4800 * k)) (amD n (4800 * k)) = n + 146097 * k ∧ 0 ≤ amK n (4800 * k) := by
  obtain ⟨a, b, c, d, e, f, g⟩ := td_spec n h
  have eY : amY n (4800 * k) = tdY n + 400 * k := by unfold amY amK; omega
  have eM : amM n (4800 * k) = tdM n := by unfold amM amK; omega
  have eD : amD n (4800 * k) = tdD n := by unfold amD; rw [eY, eM, dim_400 _ _ _ a hk]; omega
  refine ⟨eY, eM, eD, ?_, by unfold amK; omega⟩
  rw [eY, eM, eD, num_400 _ _ _ _ a hk, g]
theorem am_4800_yes {n k : Int} (h : isDayB n = true) (hk : 0 ≤ k) (hn : n + 146097 * k < 1000000) :
    amB n (4800 * k) = true ∧ amV n (4800 * k) = n + 146097 * k ∧ isDayB (n + 146097 * k) = true ∧ tdM (n + 146097 * k) = tdM n ∧ tdD (n + 146097 * k) = tdD n := by
  obtain ⟨a, b, c, d, e, f, g⟩ := td_spec n h
  obtain ⟨eY, eM, eD, eN, eK⟩ := am_4800 h hk
  have hn0 := (isDay_iff n).1 h
  have hf : fdB (amY n (4800 * k)) (amM n (4800 * k)) (amD n (4800 * k)) = true := (fdB_iff _ _ _).2 ⟨by omega, by omega, by rw [eY, eM, eD, dim_400 _ _ _ a hk]; exact f, by omega⟩
  obtain ⟨r1, r2⟩ := am_in h eK
  have hd : isDayB (n + 146097 * k) = true := (isDay_iff _).2 ⟨by omega, hn⟩
  obtain ⟨u1, u2, u3⟩ := td_uniq (n := n + 146097 * k) (y := tdY n + 400 * k) (m := tdM n) (d := tdD n) hd (by omega) e (by rw [dim_400 _ _ _ a hk]; exact f) (by rw [num_400 _ _ _ _ a hk, g])
  exact ⟨by rw [r1, hf], by rw [r2, fdV_yes hf, eN], hd, u2.symm, u3.symm⟩
theorem am_4800_no {n k : Int} (h : isDayB n = true) (hk : 0 ≤ k) (hn : 1000000 ≤ n + 146097 * k) : amB n (4800 * k) = false := by
  obtain ⟨eY, eM, eD, eN, eK⟩ := am_4800 h hk
  obtain ⟨r1, r2⟩ := am_in h eK
  rw [r1]; exact fd_no (by omega)
theorem wd_400 {n k : Int} (h : isDayB n = true) (h2 : isDayB (n + 146097 * k) = true) : wd (n + 146097 * k) = wd n := by
  simp only [wd, h, h2, if_true]; omega

theorem num_lt {y m d y' m' d' : Int} (hy : 1600 ≤ y) (h1 : 1 ≤ d) (h2 : d ≤ dim y m) (m1 : 1 ≤ m') (m2 : m' ≤ 12) (h3 : 1 ≤ d') (h : y < y' ∨ y = y' ∧ m < m') : num y m d < num y' m' d' := by
  obtain ⟨p, q⟩ := mon_of h1 h2
  rcases h with h | ⟨rfl, h⟩
  · have hs := ny_succ y hy
    have h13 : cum y m + dim y m ≤ 365 + leap y := by
      by_cases e : m = 12
      · subst e; have := cum_succ y 12 (by omega) (by omega); rw [show (12 : Int) + 1 = 13 from rfl, cum_13] at this; omega
      · have := cum_mono y m 13 p (by omega) (by omega); rw [cum_13] at this; omega
    have hc := cum_bd y' m'
    have hl : ny (y + 1) ≤ ny y' := by
      by_cases e : y + 1 = y'
      · rw [e]; omega
      · have := ny_lt (y + 1) y' (by omega); omega
    unfold num; omega
  · have := cum_mono y m m' p h (by omega)
    unfold num; omega
theorem am_mono {a b k : Int} (h : a ≤ b) (ha : amB a k = true) (hb : amB b k = true) : amV a k ≤ amV b k := by
  simp only [amV, ha, hb, if_true]
  simp only [amB, Bool.and_eq_true, decide_eq_true_eq] at ha hb
  obtain ⟨⟨a1, a2⟩, a3⟩ := ha
  obtain ⟨⟨b1, b2⟩, b3⟩ := hb
  obtain ⟨s1, s2, s3, s4, s5, s6, s7⟩ := td_spec a a1
  obtain ⟨t1, t2, t3, t4, t5, t6, t7⟩ := td_spec b b1
  obtain ⟨p1, p2, p3, p4⟩ := (fdB_iff _ _ _).1 a3
  obtain ⟨q1, q2, q3, q4⟩ := (fdB_iff _ _ _).1 b3
  have hord : amK a k < amK b k ∨ amK a k = amK b k ∧ tdD a ≤ tdD b := by
    unfold amK
    rcases Int.lt_trichotomy (tdY a) (tdY b) with c | c | c
    · left; omega
    · rcases Int.lt_trichotomy (tdM a) (tdM b) with e | e | e
      · left; omega
      · right; refine ⟨by omega, ?_⟩
        rw [c, e] at s7; unfold num at s7 t7; omega
      · have := num_lt (y := tdY b) (m := tdM b) (d := tdD b) (y' := tdY a) (m' := tdM a) (d' := tdD a) t1 t5 t6 s3 s4 s5 (Or.inr ⟨c.symm, e⟩); omega
    · have := num_lt (y := tdY b) (m := tdM b) (d := tdD b) (y' := tdY a) (m' := tdM a) (d' := tdD a) t1 t5 t6 s3 s4 s5 (Or.inl c); omega
  rcases hord with c | ⟨c, e⟩
  · have hb4 := mon_of q2 q3
    have : amY a k < amY b k ∨ amY a k = amY b k ∧ amM a k < amM b k := by unfold amY amM; omega
    have := num_lt p1 p2 p3 hb4.1 hb4.2 q2 this
    omega
  · have eY : amY a k = amY b k := by unfold amY; rw [c]
    have eM : amM a k = amM b k := by unfold amM; rw [c]
    unfold amD
    rw [eY, eM]
    unfold num; omega
end Go.Proofs.YtpdafoinhpjklaaDoor.Cal
