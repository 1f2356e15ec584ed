/- Contracts of the reference's startsUpTo, IndexOf and firstDay. -/
import Derived.Test.YtjphkgnngkbgcaaDoorGw5
namespace Go.Proofs.YtjphkgnngkbgcaaDoor
open Go.ChangeShapes Go.WideShapes Go.ChangeAt Go.RowKit

/-- first days of years up to z that are no Mondays -/
def cw (z : Int) : Int := Cal.wb z - (Cal.ny z + 5) / 7 + 1
theorem cw_start : cw 1599 = 0 := by decide
theorem cw_step (z : Int) (h : 1600 ≤ z) : cw z = cw (z - 1) + if Cal.dsm (Cal.ny z) = 0 then 0 else 1 := by
  by_cases e : z = 1600
  · subst e; decide
  · have := Cal.wb_succ (z - 1) (by omega)
    rw [show z - 1 + 1 = z by omega] at this
    unfold cw Cal.dsm at *
    split <;> omega
theorem cw_end (n : Int) (h0 : 0 ≤ n) (s : Int) : (n + 5) / 7 + cw (Cal.yr n) = Cal.idx 2 s n + 1 := by
  obtain ⟨a, b, c⟩ := Cal.yr_spec n h0
  simp only [Cal.idx, Cal.wIdx, cw, Cal.dsm]
  simp
  omega
theorem su_m {s n : Int} (h1 : 1 ≤ s) : (12 * (Cal.yr n - 1600) + Cal.ymM n - 1) + (if s ≤ Cal.ymD n then 1 else 0) + (if 1 < s then 1 else 0) = Cal.idx 3 s n + 1 := by
  simp [Cal.idx, Cal.mIdx, Cal.uM, Cal.uD, Cal.uL]
  (repeat' split) <;> omega
theorem su_q {s n : Int} (h0 : 0 ≤ n) : evr (12 * (Cal.yr n - 1600) + Cal.ymM n - 1) ((s - 1) % 3) 3 = Cal.idx 4 s n + 1 := by
  obtain ⟨a, b, c, e, f, g⟩ := Cal.ymd_spec n h0
  have hd : ¬ Cal.ymD n < 1 := by omega
  simp [Cal.idx, Cal.mIdx, Cal.uM, Cal.uD, Cal.uL, evr, hd]
  (repeat' split) <;> omega
theorem su_y {s n : Int} (h0 : 0 ≤ n) (h1 : 1 ≤ s) (h2 : s ≤ 12) : evr (12 * (Cal.yr n - 1600) + Cal.ymM n - 1) (s - 1) 12 = Cal.idx 5 s n + 1 := by
  obtain ⟨a, b, c, e, f, g⟩ := Cal.ymd_spec n h0
  have hd : ¬ Cal.ymD n < 1 := by omega
  simp [Cal.idx, Cal.mIdx, Cal.uM, Cal.uD, Cal.uL, evr, hd]
  (repeat' split) <;> omega

set_option maxHeartbeats 4000000 in
theorem su_ref (k s n : Int) (w : World) (hv : Cal.validB k s = true) (h0 : 0 ≤ n) (h1 : n < 1000000) :
    Calls Tryd.prog 28 #[gv k s, .int .i64 n] w fun e w' => e = .returned (.int .i64 (Cal.idx k s n + 1)) ∧ Grown w w' := by
  obtain ⟨y1, m1, m2, d1, d2, _⟩ := Cal.ymd_spec n h0
  obtain ⟨_, y3, _⟩ := Cal.yr_spec n h0
  have hnb := Cal.ny_bd _ y1
  have y2 : Cal.yr n ≤ 4339 := by omega
  have hdd := Cal.dim_bd (Cal.yr n) (Cal.ymM n)
  have hvv := (Cal.valid_iff k s).1 hv
  rename_i hx1 hx2 hx3
  clear hx1 hx3 hx2 hv
  have e : (k = 1 ∧ s = 0) ∨ (k = 2 ∧ s = 0) ∨ (k = 3 ∧ 1 ≤ s ∧ s ≤ 28) ∨ (k = 4 ∧ 1 ≤ s ∧ s ≤ 12) ∨ (k = 5 ∧ 1 ≤ s ∧ s ≤ 12) := by omega
  clear hvv
  rcases e with ⟨rfl, rfl⟩ | ⟨rfl, rfl⟩ | ⟨rfl, s1, s2⟩ | ⟨rfl, s1, s2⟩ | ⟨rfl, s1, s2⟩
  · go_enter Tryd.func28, Tryd.ntmps28
    go_wp2_with fail
    refine (td_ref_ym _ _ h0 h1).mono ?_; rintro e w1 ⟨rfl, hg⟩
    obtain ⟨hc, hf⟩ := gcell hg
    go_wp2_with fail
    go_ret
    exact ⟨ret_int (by simp [Cal.idx]), grown_trans ((Grown.refl _).alloc _ _) hg⟩
  · have HE := Lib.hid (cw_end n h0 0)
    have HS := Lib.hid cw_start
    go_enter Tryd.func28, Tryd.ntmps28
    go_wp2_with fail
    refine (td_ref_ym _ _ h0 h1).mono ?_; rintro e w1 ⟨rfl, hg⟩
    obtain ⟨hc, hf⟩ := gcell hg
    go_wp2_with fail
    go_loop [10, 11] (fun t i => ∃ z : Int, 1600 ≤ z ∧ z ≤ Cal.yr n + 1 ∧ i = .int .i64 z ∧ t = .int .i64 ((n + 5) / 7 + cw (z - 1)) ∧ 0 ≤ cw (z - 1) ∧ cw (z - 1) ≤ z - 1600) (fun _ i => (5000 - intOf i).toNat)
    case atStart => exact ⟨1600, by omega, by omega, rfl, by rw [show (1600 : Int) - 1 = 1599 from rfl, HS.out]; go_num, by rw [show (1600 : Int) - 1 = 1599 from rfl, HS.out]; omega, by rw [show (1600 : Int) - 1 = 1599 from rfl, HS.out]; omega⟩
    case round =>
      obtain ⟨z, z1, z2, rfl, rfl, z3, z4⟩ := hrel
      by_cases hlt : z ≤ Cal.yr n
      · have hst := cw_step z z1
        have hnz := Cal.ny_bd z z1
        have hnl : Cal.ny z ≤ n := by
          by_cases e : z = Cal.yr n
          · rw [e]; exact y3
          · have := Cal.ny_lt z (Cal.yr n) (by omega); omega
        have hd := dsm_bd (Cal.ny z)
        by_cases hm : Cal.dsm (Cal.ny z) = 0
        · rw [if_pos hm] at hst
          have HST := Lib.hid hst
          have hm1 : (Cal.dsm (Cal.ny z) != 0) = false := by simp [hm]
          have hm2 : (Cal.dsm (Cal.ny z) + 1 != 1) = false := by simp [hm]
          have hm3 : (Cal.dsm (Cal.ny z) == 0) = true := by simp [hm]
          have hm4 : (Cal.dsm (Cal.ny z) + 1 == 1) = true := by simp [hm]
          clear hst hm
          go_wp2_with (first | (go_at_call 40; refine (ny_ref _ _ (by omega) (by omega)).mono ?_; rintro e w' ⟨rfl, rfl⟩) | (go_at_call 39; refine (wd_ref_day _ _ (by omega) (by omega)).mono ?_; rintro e w' ⟨rfl, rfl⟩))
          go_round
          case rel => exact ⟨z + 1, by omega, by omega, rfl, by rw [show z + 1 - 1 = z by omega, HST.out]; go_num, by rw [show z + 1 - 1 = z by omega, HST.out]; omega, by rw [show z + 1 - 1 = z by omega, HST.out]; omega⟩
          case measure => simp [intOf]; omega
        · rw [if_neg hm] at hst
          have HST := Lib.hid hst
          have hm0 : Cal.dsm (Cal.ny z) ≠ 0 := hm
          have hm1 : (Cal.dsm (Cal.ny z) != 0) = true := by simp [hm]
          have hm2 : (Cal.dsm (Cal.ny z) + 1 != 1) = true := by simp; omega
          have hm3 : (Cal.dsm (Cal.ny z) == 0) = false := by simp [hm]
          have hm4 : (Cal.dsm (Cal.ny z) + 1 == 1) = false := by simp; omega
          clear hst hm
          go_wp2_with (first | (go_at_call 40; refine (ny_ref _ _ (by omega) (by omega)).mono ?_; rintro e w' ⟨rfl, rfl⟩) | (go_at_call 39; refine (wd_ref_day _ _ (by omega) (by omega)).mono ?_; rintro e w' ⟨rfl, rfl⟩))
          go_round
          case rel => exact ⟨z + 1, by omega, by omega, rfl, by rw [show z + 1 - 1 = z by omega, HST.out]; go_num, by rw [show z + 1 - 1 = z by omega, HST.out]; omega, by rw [show z + 1 - 1 = z by omega, HST.out]; omega⟩
          case measure => simp [intOf]; omega
      · obtain rfl : z = Cal.yr n + 1 := by omega
        go_wp2_with fail
        go_ret
        exact ⟨ret_int (by rw [← HE.out]), grown_trans ((Grown.refl _).alloc _ _) hg⟩
  · have HS := Lib.hid (su_m (n := n) s1)
    have hcs : (s ≤ Cal.ymD n ∧ 1 < s) ∨ (s ≤ Cal.ymD n ∧ ¬ 1 < s) ∨ (¬ s ≤ Cal.ymD n ∧ 1 < s) := by omega
    rcases hcs with ⟨c1, c2⟩ | ⟨c1, c2⟩ | ⟨c1, c2⟩
    all_goals
        go_enter Tryd.func28, Tryd.ntmps28
        go_wp2_with fail
        refine (td_ref_ym _ _ h0 h1).mono ?_; rintro e w1 ⟨rfl, hg⟩
        obtain ⟨hc, hf⟩ := gcell hg
        go_wp2_with fail
        go_ret
        exact ⟨ret_int (by rw [← HS.out]; (repeat' split) <;> omega), grown_trans ((Grown.refl _).alloc _ _) hg⟩
  · have HS := Lib.hid (su_q (s := s) (n := n) h0)
    have hs0 : 0 ≤ s - 1 := by omega
    go_enter Tryd.func28, Tryd.ntmps28
    go_wp2_with fail
    refine (td_ref_ym _ _ h0 h1).mono ?_; rintro e w1 ⟨rfl, hg⟩
    obtain ⟨hc, hf⟩ := gcell hg
    go_wp2_with fail
    refine (every_ref _ _ _ _ (by omega) (by omega) (by omega) (by omega) (Or.inl rfl)).mono ?_; rintro e w' ⟨rfl, rfl⟩
    go_wp2_with fail
    go_ret
    exact ⟨ret_int HS.out, grown_trans ((Grown.refl _).alloc _ _) hg⟩
  · have HS := Lib.hid (su_y (n := n) h0 s1 s2)
    have hs0 : 0 ≤ s - 1 := by omega
    go_enter Tryd.func28, Tryd.ntmps28
    go_wp2_with fail
    refine (td_ref_ym _ _ h0 h1).mono ?_; rintro e w1 ⟨rfl, hg⟩
    obtain ⟨hc, hf⟩ := gcell hg
    go_wp2_with fail
    refine (every_ref _ _ _ _ (by omega) (by omega) (by omega) (by omega) (Or.inr rfl)).mono ?_; rintro e w' ⟨rfl, rfl⟩
    go_wp2_with fail
    go_ret
    exact ⟨ret_int HS.out, grown_trans ((Grown.refl _).alloc _ _) hg⟩
end Go.Proofs.YtjphkgnngkbgcaaDoor
