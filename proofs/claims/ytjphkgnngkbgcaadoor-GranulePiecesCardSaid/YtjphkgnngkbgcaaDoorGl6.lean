/- The lengths of granules, in plain arithmetic. -/
import Derived.Test.YtjphkgnngkbgcaaDoorGl4
namespace Go.Proofs.YtjphkgnngkbgcaaDoor
open Go.ChangeShapes Go.WideShapes Go.ChangeAt Go.RowKit

theorem yr_mono {a b : Int} (h0 : 0 ≤ a) (h : a ≤ b) : Cal.yr a ≤ Cal.yr b := by
  obtain ⟨a1, a2, a3⟩ := Cal.yr_spec a h0
  obtain ⟨b1, b2, b3⟩ := Cal.yr_spec b (by omega)
  by_cases c : Cal.yr a ≤ Cal.yr b
  · exact c
  · exfalso
    by_cases e : Cal.yr b + 1 = Cal.yr a
    · rw [e] at b3; omega
    · have := Cal.ny_lt (Cal.yr b + 1) (Cal.yr a) (by omega); omega
theorem cw_mono (a : Int) (ha : 1600 ≤ a) (j : Nat) : cw a ≤ cw (a + j) := by
  induction j with
  | zero => simp
  | succ j ih =>
    have := cw_step (a + (j + 1 : Nat)) (by omega)
    rw [show a + ((j + 1 : Nat) : Int) - 1 = a + j by omega] at this
    have : cw (a + j) ≤ cw (a + ((j + 1 : Nat) : Int)) := by rw [this]; split <;> omega
    omega
theorem wIdx_7 {n : Int} (h0 : 0 ≤ n) : Cal.idx 2 0 n + 1 ≤ Cal.idx 2 0 (n + 7) := by
  have h1 := cw_end n h0 0
  have h2 := cw_end (n + 7) (by omega) 0
  have hy := yr_mono h0 (show n ≤ n + 7 by omega)
  have h3 := cw_mono (Cal.yr n) (Cal.yr_spec n h0).1 (Cal.yr (n + 7) - Cal.yr n).toNat
  rw [show Cal.yr n + ((Cal.yr (n + 7) - Cal.yr n).toNat : Int) = Cal.yr (n + 7) by omega] at h3
  omega
theorem len_week {i : Int} (h0 : 0 ≤ i) (h1 : Cal.fst 2 0 i < 1000000) : Cal.fst 2 0 (i + 1) - Cal.fst 2 0 i ≤ 7 := by
  have b0 := Cal.fst_bd valid_week h0
  have b1 := Cal.fst_bd valid_week (i := i + 1) (by omega)
  by_cases c : Cal.fst 2 0 (i + 1) - Cal.fst 2 0 i ≤ 7
  · exact c
  · exfalso
    have h7 := wIdx_7 b0.1
    rw [Cal.idx_fst valid_week h0 h1] at h7
    have := (Cal.fst_gal valid_week (i := i + 1) (n := Cal.fst 2 0 i + 7) (by omega) (by omega) (by omega)).1 h7
    omega
theorem mFst_succ (K d : Int) (hK : 0 ≤ K) : Cal.mFst (K + 1) d = Cal.mFst K d + Cal.dim (1600 + K / 12) (K % 12 + 1) := by
  unfold Cal.mFst Cal.num
  by_cases c : K % 12 = 11
  · have e1 : 1600 + (K + 1) / 12 = 1600 + K / 12 + 1 := by omega
    have e2 : (K + 1) % 12 + 1 = 1 := by omega
    have e3 : K % 12 + 1 = 12 := by omega
    rw [e1, e2, e3, Cal.cum_one]
    have h1 := Cal.ny_succ (1600 + K / 12) (by omega)
    have h2 := Cal.cum_succ (1600 + K / 12) 12 (by omega) (by omega)
    rw [show (12 : Int) + 1 = 13 from rfl, Cal.cum_13] at h2
    omega
  · have e1 : 1600 + (K + 1) / 12 = 1600 + K / 12 := by omega
    have e2 : (K + 1) % 12 + 1 = K % 12 + 1 + 1 := by omega
    rw [e1, e2]
    have h2 := Cal.cum_succ (1600 + K / 12) (K % 12 + 1) (by omega) (by omega)
    omega
theorem dim_val (y m : Int) : (m = 2 → Cal.dim y m = 28 + Cal.leap y) ∧ (m = 4 ∨ m = 6 ∨ m = 9 ∨ m = 11 → Cal.dim y m = 30) ∧ (m = 1 ∨ m = 3 ∨ m = 5 ∨ m = 7 ∨ m = 8 ∨ m = 10 ∨ m = 12 → Cal.dim y m = 31) := by
  unfold Cal.dim
  refine ⟨fun h => ?_, fun h => ?_, fun h => ?_⟩
  all_goals (repeat' split) <;> omega
theorem mFst_3 (K d : Int) (hK : 0 ≤ K) : 89 ≤ Cal.mFst (K + 3) d - Cal.mFst K d ∧ Cal.mFst (K + 3) d - Cal.mFst K d ≤ 92 := by
  have h1 := mFst_succ K d hK
  have h2 := mFst_succ (K + 1) d (by omega)
  have h3 := mFst_succ (K + 2) d (by omega)
  rw [show K + 1 + 1 = K + 2 by omega] at h2
  rw [show K + 2 + 1 = K + 3 by omega] at h3
  have d1 := dim_val (1600 + K / 12) (K % 12 + 1)
  have d2 := dim_val (1600 + (K + 1) / 12) ((K + 1) % 12 + 1)
  have d3 := dim_val (1600 + (K + 2) / 12) ((K + 2) % 12 + 1)
  have l1 := Cal.leap_01 (1600 + K / 12)
  have l2 := Cal.leap_01 (1600 + (K + 1) / 12)
  have l3 := Cal.leap_01 (1600 + (K + 2) / 12)
  generalize Cal.dim (1600 + K / 12) (K % 12 + 1) = x1 at *
  generalize Cal.dim (1600 + (K + 1) / 12) ((K + 1) % 12 + 1) = x2 at *
  generalize Cal.dim (1600 + (K + 2) / 12) ((K + 2) % 12 + 1) = x3 at *
  have r : K % 12 = 0 ∨ K % 12 = 1 ∨ K % 12 = 2 ∨ K % 12 = 3 ∨ K % 12 = 4 ∨ K % 12 = 5 ∨ K % 12 = 6 ∨ K % 12 = 7 ∨ K % 12 = 8 ∨ K % 12 = 9 ∨ K % 12 = 10 ∨ K % 12 = 11 := by omega
  rcases r with r | r | r | r | r | r | r | r | r | r | r | r <;> omega
theorem mFst_12 (K d : Int) (hK : 0 ≤ K) : 365 ≤ Cal.mFst (K + 12) d - Cal.mFst K d ∧ Cal.mFst (K + 12) d - Cal.mFst K d ≤ 366 := by
  unfold Cal.mFst Cal.num
  have e1 : 1600 + (K + 12) / 12 = 1600 + K / 12 + 1 := by omega
  have e2 : (K + 12) % 12 + 1 = K % 12 + 1 := by omega
  rw [e1, e2]
  have h1 := Cal.ny_succ (1600 + K / 12) (by omega)
  have l1 := Cal.leap_01 (1600 + K / 12)
  have l2 := Cal.leap_01 (1600 + K / 12 + 1)
  have hc : Cal.cum (1600 + K / 12 + 1) (K % 12 + 1) - Cal.cum (1600 + K / 12) (K % 12 + 1) = 0 ∨ Cal.cum (1600 + K / 12 + 1) (K % 12 + 1) - Cal.cum (1600 + K / 12) (K % 12 + 1) = Cal.leap (1600 + K / 12 + 1) - Cal.leap (1600 + K / 12) := by
    unfold Cal.cum
    by_cases c1 : K % 12 + 1 ≤ 1
    · left; simp [c1]
    · by_cases c2 : K % 12 + 1 = 2
      · left; simp [c2]
      · right; rw [if_neg c1, if_neg c1, if_neg c2, if_neg c2]; omega
  omega
def lo (k : Int) : Int := if k = 1 then 1 else if k = 2 then 1 else if k = 3 then 28 else if k = 4 then 89 else 365
def hi (k : Int) : Int := if k = 1 then 1 else if k = 2 then 7 else if k = 3 then 31 else if k = 4 then 92 else 366
theorem gran_len {k s i : Int} (hv : Cal.validB k s = true) (h0 : 0 ≤ i) (h1 : Cal.fst k s i < 1000000) (h2 : Cal.fst k s i ≠ 0) (h3 : Cal.fst k s (i + 1) ≠ 1000000) :
    lo k ≤ Cal.fst k s (i + 1) - Cal.fst k s i ∧ Cal.fst k s (i + 1) - Cal.fst k s i ≤ hi k := by
  have hlt := Cal.fst_lt hv h0 h1
  have hb := Cal.fst_bd hv (i := i + 1) (by omega)
  have hbig : i < 1000000 := by
    by_cases c : i < 1000000
    · exact c
    · have := Cal.fst_big hv (i := i) (by omega); omega
  by_cases k1 : k = 1
  · subst k1
    have e : ∀ j, 0 ≤ j → j ≤ 1000000 → Cal.fst 1 s j = j := fun j a b => Cal.fst_eq hv a ⟨a, b, fun n _ _ => by simp [Cal.idx], fun _ => by simp [Cal.idx]⟩
    rw [e i h0 (by omega), e (i + 1) (by omega) (by omega)]
    simp [lo, hi]; omega
  · by_cases k2 : k = 2
    · subst k2
      have hs : s = 0 := by rw [Cal.valid_iff] at hv; omega
      subst hs
      have := len_week h0 h1
      simp [lo, hi]; omega
    · have e0 := Cal.fst_eq hv h0 (Cal.isFst_m hv k1 k2 h0)
      have e1 := Cal.fst_eq hv (i := i + 1) (by omega) (Cal.isFst_m hv k1 k2 (by omega))
      have hk : k = 3 ∨ k = 4 ∨ k = 5 := by rw [Cal.valid_iff] at hv; omega
      obtain ⟨⟨u1, u2⟩, ⟨d1, d2⟩, ⟨l0, l1⟩⟩ := unit_int hv k1 k2
      unfold Cal.mF at e0 e1
      have c0 : ¬ i * Cal.uM k - Cal.uL k s < 0 := fun c => by rw [if_pos c] at e0; omega
      rw [if_neg c0] at e0
      rcases hk with rfl | rfl | rfl
      · have eu : Cal.uM 3 = 1 := rfl
        rw [eu] at e0 e1 c0
        rw [if_neg (by omega)] at e1
        have hm := mFst_succ (i * 1 - Cal.uL 3 s) (Cal.uD 3 s) (by omega)
        rw [show i * 1 - Cal.uL 3 s + 1 = (i + 1) * 1 - Cal.uL 3 s by omega] at hm
        have hd := Cal.dim_bd (1600 + (i * 1 - Cal.uL 3 s) / 12) ((i * 1 - Cal.uL 3 s) % 12 + 1)
        have hp := Cal.dim_pos (1600 + (i * 1 - Cal.uL 3 s) / 12) ((i * 1 - Cal.uL 3 s) % 12 + 1) (by omega) (by omega)
        simp only [lo, hi]; simp; omega
      · have eu : Cal.uM 4 = 3 := rfl
        rw [eu] at e0 e1 c0
        rw [if_neg (by omega)] at e1
        have hm := mFst_3 (i * 3 - Cal.uL 4 s) (Cal.uD 4 s) (by omega)
        rw [show i * 3 - Cal.uL 4 s + 3 = (i + 1) * 3 - Cal.uL 4 s by omega] at hm
        simp only [lo, hi]; simp; omega
      · have eu : Cal.uM 5 = 12 := rfl
        rw [eu] at e0 e1 c0
        rw [if_neg (by omega)] at e1
        have hm := mFst_12 (i * 12 - Cal.uL 5 s) (Cal.uD 5 s) (by omega)
        rw [show i * 12 - Cal.uL 5 s + 12 = (i + 1) * 12 - Cal.uL 5 s by omega] at hm
        simp only [lo, hi]; simp; omega
end Go.Proofs.YtjphkgnngkbgcaaDoor
