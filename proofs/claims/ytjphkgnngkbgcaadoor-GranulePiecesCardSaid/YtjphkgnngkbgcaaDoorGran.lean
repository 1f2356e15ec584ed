/- Plain arithmetic of granules: the number of the granule of a day, the first day of a granule, for days, weeks, months, quarters and years. No program is named here. -/
import Derived.Test.YtjphkgnngkbgcaaDoorCal2
namespace Go.Proofs.YtjphkgnngkbgcaaDoor.Cal

def validB (k s : Int) : Bool := decide ((k = 1 ∨ k = 2) ∧ s = 0 ∨ k = 3 ∧ 1 ≤ s ∧ s ≤ 28 ∨ (k = 4 ∨ k = 5) ∧ 1 ≤ s ∧ s ≤ 12)
theorem valid_iff (k s : Int) : validB k s = true ↔ (k = 1 ∨ k = 2) ∧ s = 0 ∨ k = 3 ∧ 1 ≤ s ∧ s ≤ 28 ∨ (k = 4 ∨ k = 5) ∧ 1 ≤ s ∧ s ≤ 12 := by unfold validB; simp
/-- months of a unit, its day of the month, its lead -/
def uM (k : Int) : Int := if k = 4 then 3 else if k = 5 then 12 else 1
def uD (k s : Int) : Int := if k = 4 ∨ k = 5 then 1 else s
def uL (k s : Int) : Int := if k = 4 then (13 - s) % 3 else if k = 5 then (13 - s) % 12 else if s = 1 then 0 else 1
def longs : List Int := [12, 40, 68, 96, 108, 136, 164, 192, 204, 232, 260, 288, 328, 356, 384]
def lc (r : Int) : Int := (longs.countP (fun x => decide (x < r)) : Nat)
/-- weeks before the year 1600 + n -/
def wbN (n : Int) : Int := n * 53 + n / 400 * 15 + lc (n % 400)
def wb (y : Int) : Int := wbN (y - 1600)
def dsm (n : Int) : Int := (n + 5) % 7
def wIdx (n : Int) : Int := wb (yr n) + (dsm (ny (yr n)) + n - ny (yr n)) / 7
def ymM (n : Int) : Int := mo (yr n) (n - ny (yr n))
def ymD (n : Int) : Int := n - ny (yr n) - cum (yr n) (ymM n) + 1
def mIdx (n d : Int) : Int := (yr n - 1600) * 12 + ymM n - 1 - (if ymD n < d then 1 else 0)
def idx (k s n : Int) : Int := if k = 1 then n else if k = 2 then wIdx n else (mIdx n (uD k s) + uL k s) / uM k
def isFst (k s i F : Int) : Prop := 0 ≤ F ∧ F ≤ 1000000 ∧ (∀ n, 0 ≤ n → n < 1000000 → (i ≤ idx k s n ↔ F ≤ n)) ∧ (F < 1000000 → idx k s F = i)

theorem isFst_uniq {k s i F G : Int} (h : isFst k s i F) (h' : isFst k s i G) : F = G := by
  obtain ⟨a, b, c, _⟩ := h
  obtain ⟨a', b', c', _⟩ := h'
  rcases Int.lt_trichotomy F G with l | l | l
  · have := (c' F a (by omega)).1 ((c F a (by omega)).2 (Int.le_refl _)); omega
  · exact l
  · have := (c G a' (by omega)).1 ((c' G a' (by omega)).2 (Int.le_refl _)); omega

/-! the date of a day, without an upper bound -/
theorem ymd_spec (n : Int) (h : 0 ≤ n) : 1600 ≤ yr n ∧ 1 ≤ ymM n ∧ ymM n ≤ 12 ∧ 1 ≤ ymD n ∧ ymD n ≤ dim (yr n) (ymM n) ∧ num (yr n) (ymM n) (ymD n) = n := by
  obtain ⟨a, b, c⟩ := yr_spec n h
  rw [ny_succ _ a] at c
  obtain ⟨p, q, r, s⟩ := mo_spec (yr n) (n - ny (yr n)) (by omega) (by omega)
  unfold ymD ymM
  exact ⟨a, p, q, by omega, by omega, by unfold num; omega⟩
theorem ymd_uniq {n y m d : Int} (h0 : 0 ≤ n) (hy : 1600 ≤ y) (h1 : 1 ≤ d) (h2 : d ≤ dim y m) (hn : num y m d = n) : y = yr n ∧ m = ymM n ∧ d = ymD n := by
  obtain ⟨m1, m2⟩ := mon_of h1 h2
  have hb := cum_bd y m
  have h13 : cum y m + dim y m ≤ 365 + leap y := by
    by_cases e : m = 12
    · subst e; have := cum_succ y 12 (by omega) (by omega); rw [show (12 : Int) + 1 = 13 from rfl, cum_13] at this; omega
    · have := cum_mono y m 13 m1 (by omega) (by omega); rw [cum_13] at this; omega
  have hs := ny_succ y hy
  unfold num at hn
  have e := yr_uniq n y h0 (by omega) (by omega)
  have em := mo_uniq y (n - ny y) m m1 m2 (by omega) (by omega)
  unfold ymD ymM
  rw [← e, ← em]
  exact ⟨rfl, rfl, by omega⟩
theorem num_lt2 {y m d y' m' d' : Int} (hy : 1600 ≤ y) (h1 : 1 ≤ d) (h2 : d ≤ dim y m) (m1 : 1 ≤ m') (m2 : m' ≤ 12) (h3 : 1 ≤ d') (h : y < y' ∨ y = y' ∧ m < m') : num y m d < num y' m' d' := by
  obtain ⟨p, q⟩ := mon_of h1 h2
  rcases h with h | ⟨rfl, h⟩
  · have hs := ny_succ y hy
    have h13 : cum y m + dim y m ≤ 365 + leap y := by
      by_cases e : m = 12
      · subst e; have := cum_succ y 12 (by omega) (by omega); rw [show (12 : Int) + 1 = 13 from rfl, cum_13] at this; omega
      · have := cum_mono y m 13 p (by omega) (by omega); rw [cum_13] at this; omega
    have hc := cum_bd y' m'
    have hl : ny (y + 1) ≤ ny y' := by
      by_cases e : y + 1 = y'
      · rw [e]; omega
      · have := ny_lt (y + 1) y' (by omega); omega
    unfold num; omega
  · have := cum_mono y m m' p h (by omega)
    unfold num; omega

/-- the first day of the month K (counted from January 1600) that bears the number d -/
def mFst (K d : Int) : Int := num (1600 + K / 12) (K % 12 + 1) d
theorem mIdx_gal (n K d : Int) (h0 : 0 ≤ n) (hK : 0 ≤ K) (hd : 1 ≤ d) (hd2 : d ≤ 28) : K ≤ mIdx n d ↔ mFst K d ≤ n := by
  obtain ⟨a, b, c, e, f, g⟩ := ymd_spec n h0
  unfold mIdx mFst
  generalize yr n = y at *
  generalize ymM n = m at *
  generalize ymD n = q at *
  have hp := dim_pos (1600 + K / 12) (K % 12 + 1) (by omega) (by omega)
  have hlt : (y - 1600) * 12 + m - 1 < K → n < num (1600 + K / 12) (K % 12 + 1) d := fun h => by
    have := num_lt2 (y := y) (m := m) (d := q) (y' := 1600 + K / 12) (m' := K % 12 + 1) (d' := d) a e f (by omega) (by omega) hd (by omega)
    omega
  have hgt : K < (y - 1600) * 12 + m - 1 → num (1600 + K / 12) (K % 12 + 1) d < n := fun h => by
    have := num_lt2 (y := 1600 + K / 12) (m := K % 12 + 1) (d := d) (y' := y) (m' := m) (d' := q) (by omega) hd (by omega) b c e (by omega)
    omega
  have heq : K = (y - 1600) * 12 + m - 1 → num (1600 + K / 12) (K % 12 + 1) d = n - q + d := fun h => by
    have e1 : 1600 + K / 12 = y := by omega
    have e2 : K % 12 + 1 = m := by omega
    rw [e1, e2]; unfold num at *; omega
  rcases Int.lt_trichotomy K ((y - 1600) * 12 + m - 1) with h | h | h
  · have := hgt h; split <;> omega
  · have := heq h; split <;> omega
  · have := hlt h; split <;> omega
theorem mFst_nonneg (K d : Int) (hK : 0 ≤ K) (hd : 1 ≤ d) : 0 ≤ mFst K d := num_nonneg (by omega) hd
theorem mIdx_fst (K d : Int) (hK : 0 ≤ K) (hd : 1 ≤ d) (hd2 : d ≤ 28) : mIdx (mFst K d) d = K := by
  have h0 := mFst_nonneg K d hK hd
  have hp := dim_pos (1600 + K / 12) (K % 12 + 1) (by omega) (by omega)
  obtain ⟨a, b, c⟩ := ymd_uniq (n := mFst K d) (y := 1600 + K / 12) (m := K % 12 + 1) (d := d) h0 (by omega) hd (by omega) rfl
  unfold mIdx
  rw [← a, ← b, ← c]
  split <;> omega

theorem unit_facts {k s : Int} (hv : validB k s = true) (h1 : k ≠ 1) (h2 : k ≠ 2) : 1 ≤ uD k s ∧ uD k s ≤ 28 ∧ 0 ≤ uL k s ∧ 1 ≤ uM k ∧ (uL k s < uM k ∨ uM k = 1 ∧ uL k s = 1) ∧ (1 < uD k s → uL k s = 1 ∧ uM k = 1) ∧ (uD k s = 1 → uL k s < uM k) := by
  rw [valid_iff] at hv
  unfold uD uL uM
  repeat' split
  all_goals omega

/-- the first day of granule i of a granularity of months, quarters or years -/
def mF (k s i : Int) : Int := if i * uM k - uL k s < 0 then 0 else min (mFst (i * uM k - uL k s) (uD k s)) 1000000
theorem isFst_m {k s i : Int} (hv : validB k s = true) (h1 : k ≠ 1) (h2 : k ≠ 2) (hi : 0 ≤ i) : isFst k s i (mF k s i) := by
  obtain ⟨d1, d2, l0, m1, lm, ld, le⟩ := unit_facts hv h1 h2
  have hidx : ∀ n, idx k s n = (mIdx n (uD k s) + uL k s) / uM k := fun n => by unfold idx; rw [if_neg h1, if_neg h2]
  have hum : uM k = 1 ∨ uM k = 3 ∨ uM k = 12 := by unfold uM; repeat' split
                                                   all_goals omega
  have hm0 : ∀ n, 0 ≤ n → -1 ≤ mIdx n (uD k s) ∧ (uD k s = 1 → 0 ≤ mIdx n (uD k s)) := fun n hn => by
    obtain ⟨a, b, c, e, f, g⟩ := ymd_spec n hn
    unfold mIdx
    split <;> omega
  unfold mF
  generalize uD k s = d at *
  generalize uL k s = l at *
  generalize uM k = u at *
  split
  · rename_i hneg
    have hi0 : i = 0 := by rcases hum with rfl | rfl | rfl <;> omega
    subst hi0
    refine ⟨by omega, by omega, fun n hn hn2 => ?_, fun _ => ?_⟩
    · rw [hidx]; have := hm0 n hn
      have hd : d = 1 ∨ 1 < d := by omega
      have : 0 ≤ mIdx n d + l := by omega
      refine ⟨fun _ => hn, fun _ => ?_⟩
      rcases hum with rfl | rfl | rfl <;> omega
    · rw [hidx]
      have e0 : mIdx 0 d = if 1 < d then -1 else 0 := by
        obtain ⟨p, q, r⟩ := ymd_uniq (n := 0) (y := 1600) (m := 1) (d := 1) (by omega) (by omega) (by omega) (by decide) (by decide)
        unfold mIdx; rw [← p, ← q, ← r]; split <;> omega
      rw [e0]
      rcases hum with rfl | rfl | rfl <;> split <;> omega
  · rename_i hpos
    have hK : 0 ≤ i * u - l := by omega
    have hn0 := mFst_nonneg (i * u - l) d hK d1
    refine ⟨by omega, by omega, fun n hn hn2 => ?_, fun h => ?_⟩
    · rw [hidx]
      have := mIdx_gal n (i * u - l) d hn hK d1 d2
      rw [show (min (mFst (i * u - l) d) 1000000 ≤ n) = (mFst (i * u - l) d ≤ n) by apply propext; omega, ← this]
      rcases hum with rfl | rfl | rfl <;> omega
    · have e : min (mFst (i * u - l) d) 1000000 = mFst (i * u - l) d := by omega
      rw [e, hidx, mIdx_fst _ _ hK d1 d2]
      rcases hum with rfl | rfl | rfl <;> omega

/-! weeks -/
theorem wb_cycle : ∀ r : Nat, r < 400 → lc (((r : Int) + 1) % 400) + ((r : Int) + 1) / 400 * 15 + 53 = lc (r : Int) + (dsm (ny (1600 + r)) + (ny (1600 + r + 1) - ny (1600 + r)) - 1) / 7 + 1 := by decide +kernel
theorem ny_cyc (r q : Int) : ny (1600 + (400 * q + r)) = 146097 * q + ny (1600 + r) := by unfold ny; omega
theorem wb_succ (y : Int) (h : 1600 ≤ y) : wb (y + 1) = wb y + (dsm (ny y) + (ny (y + 1) - ny y) - 1) / 7 + 1 := by
  obtain ⟨n, rfl⟩ : ∃ n, y = 1600 + n := ⟨y - 1600, by omega⟩
  have hn : 0 ≤ n := by omega
  have hc := wb_cycle (n % 400).toNat (by omega)
  have e0 : (((n % 400).toNat : Nat) : Int) = n % 400 := by omega
  rw [e0] at hc
  have e1 := ny_cyc (n % 400) (n / 400)
  have e2 := ny_cyc (n % 400 + 1) (n / 400)
  rw [show 400 * (n / 400) + n % 400 = n by omega] at e1
  rw [show 400 * (n / 400) + (n % 400 + 1) = n + 1 by omega] at e2
  unfold wb wbN dsm at *
  rw [show 1600 + n + 1 - 1600 = n + 1 by omega, show 1600 + n - 1600 = n by omega, show 1600 + n + 1 = 1600 + (n + 1) by omega, e1, e2]
  rw [show 1600 + n % 400 + 1 = 1600 + (n % 400 + 1) by omega] at hc
  generalize ny (1600 + n % 400) = a at *
  generalize ny (1600 + (n % 400 + 1)) = b at *
  have e3 : (n + 1) % 400 = (n % 400 + 1) % 400 := by omega
  have e4 : (n + 1) / 400 = n / 400 + (n % 400 + 1) / 400 := by omega
  rw [e3, e4]
  have e5 : (146097 * (n / 400) + a + 5) % 7 = (a + 5) % 7 := by omega
  rw [e5, show 146097 * (n / 400) + b - (146097 * (n / 400) + a) = b - a by omega]
  omega
theorem wb_step (y : Int) (h : 1600 ≤ y) : wb y + 53 ≤ wb (y + 1) := by
  have := wb_succ y h
  have := ny_succ y h
  have := leap_01 y
  have : 0 ≤ dsm (ny y) := by unfold dsm; omega
  omega
theorem wb_mono (a : Int) (ha : 1600 ≤ a) (j : Nat) : wb a + 53 * j ≤ wb (a + j) := by
  induction j with
  | zero => simp
  | succ j ih =>
    have := wb_step (a + j) (by omega)
    rw [show a + ((j + 1 : Nat) : Int) = a + j + 1 by omega]
    omega
theorem wb_le {a b : Int} (ha : 1600 ≤ a) (h : a ≤ b) : wb a + 53 * (b - a) ≤ wb b := by
  have := wb_mono a ha (b - a).toNat
  rw [show a + ((b - a).toNat : Int) = b by omega] at this
  omega
theorem wb_1600 : wb 1600 = 0 := by decide
theorem yr_in (n : Int) (h : 0 ≤ n) : 1600 ≤ yr n ∧ ny (yr n) ≤ n ∧ n < ny (yr n + 1) := yr_spec n h
theorem wIdx_bd (n : Int) (h : 0 ≤ n) : wb (yr n) ≤ wIdx n ∧ wIdx n < wb (yr n + 1) := by
  obtain ⟨a, b, c⟩ := yr_spec n h
  have := wb_succ (yr n) a
  have hd : 0 ≤ dsm (ny (yr n)) := by unfold dsm; omega
  unfold wIdx
  omega
theorem week_gal {y i : Int} (hy : 1600 ≤ y) (h1 : wb y ≤ i) (h2 : i < wb (y + 1)) (n : Int) (hn : 0 ≤ n) :
    i ≤ wIdx n ↔ max (ny y) (ny y - dsm (ny y) + 7 * (i - wb y)) ≤ n := by
  obtain ⟨a, b, c⟩ := yr_spec n hn
  have hb := wIdx_bd n hn
  have hs := wb_succ y hy
  have hd : 0 ≤ dsm (ny y) := by unfold dsm; omega
  rcases Int.lt_trichotomy (yr n) y with l | l | l
  · have hw := wb_le (a := yr n + 1) (b := y) (by omega) (by omega)
    have hny : n < ny y := by
      by_cases e : yr n + 1 = y
      · rw [← e]; exact c
      · have := ny_lt (yr n + 1) y (by omega); omega
    omega
  · subst l
    unfold wIdx
    omega
  · have hw := wb_le (a := y + 1) (b := yr n) (by omega) (by omega)
    have hny : ny (y + 1) ≤ n := by
      by_cases e : y + 1 = yr n
      · rw [e]; exact b
      · have := ny_lt (y + 1) (yr n) (by omega); omega
    have hlt := ny_lt y (y + 1) (by omega)
    omega
theorem week_at {y i : Int} (hy : 1600 ≤ y) (h1 : wb y ≤ i) (h2 : i < wb (y + 1)) : wIdx (max (ny y) (ny y - dsm (ny y) + 7 * (i - wb y))) = i := by
  have hs := wb_succ y hy
  have hd : 0 ≤ dsm (ny y) ∧ dsm (ny y) ≤ 6 := by unfold dsm; omega
  have hn0 := ny_bd y hy
  have e : y = yr (max (ny y) (ny y - dsm (ny y) + 7 * (i - wb y))) := yr_uniq _ y (by omega) (by omega) (by have := ny_lt y (y + 1) (by omega); omega)
  unfold wIdx
  rw [← e]
  omega
theorem isFst_w {y i : Int} (hy : 1600 ≤ y) (h1 : wb y ≤ i) (h2 : i < wb (y + 1)) : isFst 2 0 i (min (max (ny y) (ny y - dsm (ny y) + 7 * (i - wb y))) 1000000) := by
  have hn0 := ny_bd y hy
  have hidx : ∀ n, idx 2 0 n = wIdx n := fun n => by simp [idx]
  refine ⟨by omega, by omega, fun n hn hn2 => ?_, fun h => ?_⟩
  · rw [hidx, week_gal hy h1 h2 n hn]; omega
  · rw [hidx, show min (max (ny y) (ny y - dsm (ny y) + 7 * (i - wb y))) 1000000 = max (ny y) (ny y - dsm (ny y) + 7 * (i - wb y)) by omega]; exact week_at hy h1 h2
theorem week_year (i : Int) (h : 0 ≤ i) : ∃ y, 1600 ≤ y ∧ wb y ≤ i ∧ i < wb (y + 1) := by
  have key : ∀ j : Nat, i < wb (1600 + (j : Int)) → ∃ y, 1600 ≤ y ∧ wb y ≤ i ∧ i < wb (y + 1) := by
    intro j
    induction j with
    | zero => intro h'; have := wb_1600; simp at h'; omega
    | succ j ih =>
      intro h'
      by_cases c : i < wb (1600 + (j : Int))
      · exact ih c
      · exact ⟨1600 + j, by omega, by omega, by rw [show 1600 + (j : Int) + 1 = 1600 + ((j + 1 : Nat) : Int) by omega]; exact h'⟩
  refine key (i + 1).toNat ?_
  have := wb_mono 1600 (by omega) (i + 1).toNat
  have := wb_1600
  omega

theorem isFst_ex {k s i : Int} (hv : validB k s = true) (hi : 0 ≤ i) : ∃ F, isFst k s i F := by
  by_cases h1 : k = 1
  · subst h1
    exact ⟨min i 1000000, by omega, by omega, fun n hn hn2 => by simp [idx]; omega, fun h => by simp [idx]; omega⟩
  · by_cases h2 : k = 2
    · subst h2
      have : s = 0 := by rw [valid_iff] at hv; omega
      subst this
      obtain ⟨y, a, b, c⟩ := week_year i hi
      exact ⟨_, isFst_w a b c⟩
    · exact ⟨_, isFst_m hv h1 h2 hi⟩
open Classical in
noncomputable def fst (k s i : Int) : Int := if h : ∃ F, isFst k s i F then h.choose else 0
theorem fst_spec {k s i : Int} (hv : validB k s = true) (hi : 0 ≤ i) : isFst k s i (fst k s i) := by
  unfold fst
  rw [dif_pos (isFst_ex hv hi)]
  exact (isFst_ex hv hi).choose_spec
theorem fst_eq {k s i F : Int} (hv : validB k s = true) (hi : 0 ≤ i) (h : isFst k s i F) : fst k s i = F := isFst_uniq (fst_spec hv hi) h

/-! what follows for every valid granularity -/
theorem idx_zero {k s : Int} (hv : validB k s = true) : idx k s 0 = 0 := by
  by_cases h1 : k = 1
  · subst h1; rfl
  · by_cases h2 : k = 2
    · subst h2; have : s = 0 := by rw [valid_iff] at hv; omega
      subst this; decide
    · obtain ⟨d1, d2, l0, m1, lm, ld, le⟩ := unit_facts hv h1 h2
      have e0 : mIdx 0 (uD k s) = if 1 < uD k s then -1 else 0 := by
        obtain ⟨p, q, r⟩ := ymd_uniq (n := 0) (y := 1600) (m := 1) (d := 1) (by omega) (by omega) (by omega) (by decide) (by decide)
        unfold mIdx; rw [← p, ← q, ← r]; split <;> omega
      unfold idx
      rw [if_neg h1, if_neg h2, e0]
      have hum : uM k = 1 ∨ uM k = 3 ∨ uM k = 12 := by unfold uM; repeat' split
                                                       all_goals omega
      generalize uM k = u at *
      rcases hum with rfl | rfl | rfl <;> split <;> omega
theorem idx_mono {k s a b : Int} (hv : validB k s = true) (h0 : 0 ≤ a) (h : a ≤ b) (hb : b < 1000000) (hi : 0 ≤ idx k s a) : idx k s a ≤ idx k s b := by
  obtain ⟨p, q, r, t⟩ := fst_spec hv hi
  exact (r b (by omega) hb).2 (by have := (r a h0 (by omega)).1 (Int.le_refl _); omega)
theorem idx_nonneg {k s n : Int} (hv : validB k s = true) (h0 : 0 ≤ n) (h : n < 1000000) : 0 ≤ idx k s n := by
  have := idx_mono (a := 0) (b := n) hv (by omega) h0 h (by rw [idx_zero hv]; omega)
  rwa [idx_zero hv] at this
theorem fst_bd {k s i : Int} (hv : validB k s = true) (hi : 0 ≤ i) : 0 ≤ fst k s i ∧ fst k s i ≤ 1000000 := ⟨(fst_spec hv hi).1, (fst_spec hv hi).2.1⟩
theorem fst_gal {k s i n : Int} (hv : validB k s = true) (hi : 0 ≤ i) (h0 : 0 ≤ n) (h : n < 1000000) : i ≤ idx k s n ↔ fst k s i ≤ n := (fst_spec hv hi).2.2.1 n h0 h
theorem idx_fst {k s i : Int} (hv : validB k s = true) (hi : 0 ≤ i) (h : fst k s i < 1000000) : idx k s (fst k s i) = i := (fst_spec hv hi).2.2.2 h
theorem fst_lt {k s i : Int} (hv : validB k s = true) (hi : 0 ≤ i) (h : fst k s i < 1000000) : fst k s i < fst k s (i + 1) := by
  have hb := fst_bd hv (i := i + 1) (by omega)
  have hb2 := fst_bd hv hi
  by_cases c : fst k s (i + 1) ≤ fst k s i
  · have := (fst_gal (n := fst k s i) hv (i := i + 1) (by omega) hb2.1 h).2 c
    rw [idx_fst hv hi h] at this; omega
  · omega
theorem fst_zero {k s : Int} (hv : validB k s = true) : fst k s 0 = 0 := by
  have := (fst_gal (n := 0) hv (i := 0) (by omega) (by omega) (by omega)).1 (by rw [idx_zero hv]; omega)
  have := fst_bd hv (i := 0) (by omega)
  omega
theorem idx_succ {k s n : Int} (hv : validB k s = true) (h0 : 0 ≤ n) (h : n + 1 < 1000000) : idx k s (n + 1) = idx k s n ∨ idx k s (n + 1) = idx k s n + 1 := by
  have hp := idx_nonneg hv h0 (by omega)
  have hm := idx_mono hv h0 (show n ≤ n + 1 by omega) h hp
  by_cases c : idx k s n + 2 ≤ idx k s (n + 1)
  · exfalso
    have f2 := (fst_gal (n := n + 1) hv (i := idx k s n + 2) (by omega) (by omega) h).1 c
    have f1 : ¬ fst k s (idx k s n + 1) ≤ n := fun e => by have := (fst_gal hv (i := idx k s n + 1) (by omega) h0 (by omega)).2 e; omega
    have b1 := (fst_gal (n := n + 1) hv (i := idx k s n + 1) (by omega) (by omega) h).1 (by omega)
    have := fst_lt hv (i := idx k s n + 1) (by omega) (by omega)
    rw [show idx k s n + 1 + 1 = idx k s n + 2 by omega] at this
    omega
  · omega
theorem idx_le {k s : Int} (hv : validB k s = true) (j : Nat) (h : (j : Int) < 1000000) : idx k s j ≤ j := by
  induction j with
  | zero => have := idx_zero hv; simp [this]
  | succ j ih =>
    have := idx_succ (n := (j : Int)) hv (by omega) (by omega)
    have := ih (by omega)
    rw [show ((j + 1 : Nat) : Int) = (j : Int) + 1 by omega]
    omega
theorem fst_big {k s i : Int} (hv : validB k s = true) (hi : 1000000 ≤ i) : fst k s i = 1000000 := by
  have hb := fst_bd hv (i := i) (by omega)
  by_cases c : fst k s i < 1000000
  · have h1 := idx_fst hv (i := i) (by omega) c
    have h2 := idx_le hv (fst k s i).toNat (by omega)
    rw [show (((fst k s i).toNat : Nat) : Int) = fst k s i by omega] at h2
    omega
  · omega
end Go.Proofs.YtjphkgnngkbgcaaDoor.Cal
