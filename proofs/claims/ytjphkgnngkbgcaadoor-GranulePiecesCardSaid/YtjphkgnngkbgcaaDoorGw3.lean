/- Contracts of granule's firstDayOfWeek, firstDay, IndexOf. -/
import Derived.Test.YtjphkgnngkbgcaaDoorGw2
namespace Go.Proofs.YtjphkgnngkbgcaaDoor
open Go.ChangeShapes Go.WideShapes Go.ChangeAt Go.RowKit

/-- a number that, cut at the end of time, is the first day of week i -/
def WeekDay (i : Int) (w : World) (e : Ending) (w' : World) : Prop := ∃ v : Int, e = .returned (.int .i64 v) ∧ 0 ≤ v ∧ v ≤ 1000000000 ∧ min v 1000000 = Cal.fst 2 0 i ∧ w = w'

theorem valid_week : Cal.validB 2 0 = true := by decide

set_option maxHeartbeats 1000000 in
theorem fdw_gra (i : Int) (w : World) (hT : Tab w) (h0 : 0 ≤ i) (h1 : i ≤ 1000000) :
    Calls Tryd.prog 42 #[.int .i64 i] w (WeekDay i w) := by
  have hwe : i < Cal.wb (1600 + i / 53 + 1) := by
    have := Cal.wb_le (a := 1600) (b := 1600 + i / 53 + 1) (by omega) (by omega)
    rw [Cal.wb_1600] at this; omega
  have HT := Lib.hid hT
  clear hT
  go_enter Tryd.func42, Tryd.ntmps42
  go_wp2
  go_loop [3] (fun t => ∃ y : Int, 1600 ≤ y ∧ y ≤ 20600 ∧ i < Cal.wb (y + 1) ∧ t = .int .i64 y) (fun t => (intOf t).toNat)
  case atStart => exact ⟨1600 + i / 53, by omega, by omega, hwe, rfl⟩
  case round =>
    obtain ⟨y, y1, y2, y3, rfl⟩ := hrel
    clear hwe
    by_cases hc : i < Cal.wb y
    · have y4 : 1601 ≤ y := by
        rcases (by omega : y = 1600 ∨ 1601 ≤ y) with e | e
        · rw [e, Cal.wb_1600] at hc; omega
        · exact e
      go_wp2_with (go_at_call 25; refine (wb_gra _ _ HT.out (by omega) (by omega)).mono ?_; rintro e w' ⟨rfl, rfl⟩)
      go_round
      case rel => exact ⟨y - 1, by omega, by omega, by rw [show y - 1 + 1 = y by omega]; exact hc, rfl⟩
      case measure => simp [intOf]; omega
    · have hc' : Cal.wb y ≤ i := by omega
      have hw := Cal.wb_le (a := 1600) (b := y) (by omega) (by omega)
      have hw0 : 0 ≤ Cal.wb y := by rw [Cal.wb_1600] at hw; omega
      have hnb := Cal.ny_bd y y1
      have hF := Lib.hid (Cal.fst_eq valid_week h0 (Cal.isFst_w y1 hc' y3))
      have hd := dsm_bd (Cal.ny y)
      clear hw
      by_cases hy : Cal.ny y < 1000000
      · have hn0 : 0 ≤ Cal.ny y := by omega
        go_wp2_with (first | (go_at_call 25; refine (wb_gra _ _ HT.out (by omega) (by omega)).mono ?_; rintro e w' ⟨rfl, rfl⟩) | (go_at_call 36; refine (fd_civ_ny _ _ (by omega) (by omega)).mono ?_; rintro e w' ⟨rfl, rfl⟩) | (go_at_call 37; refine (dsm_gra _ _ (by omega) (by omega)).mono ?_; rintro e w' ⟨rfl, rfl⟩))
        all_goals
          go_ret
          exact ⟨_, rfl, by omega, by omega, by rw [hF.out]; omega, rfl⟩
      · go_wp2_with (first | (go_at_call 25; refine (wb_gra _ _ HT.out (by omega) (by omega)).mono ?_; rintro e w' ⟨rfl, rfl⟩) | (go_at_call 36; refine (fd_civ_ny_no _ _ (by omega) (by omega) (by omega)).mono ?_; rintro e w' ⟨rfl, rfl⟩))
        go_ret
        exact ⟨1000000, rfl, by omega, by omega, by rw [hF.out]; omega, rfl⟩

theorem unit_int {k s : Int} (hv : Cal.validB k s = true) (h1 : k ≠ 1) (h2 : k ≠ 2) : (1 ≤ Cal.uM k ∧ Cal.uM k ≤ 12) ∧ (1 ≤ Cal.uD k s ∧ Cal.uD k s ≤ 28) ∧ (0 ≤ Cal.uL k s ∧ Cal.uL k s ≤ 12) := by
  rw [Cal.valid_iff] at hv
  unfold Cal.uD Cal.uL Cal.uM
  repeat' split
  all_goals omega

theorem td_day {n : Int} (h : Cal.isDayB n = true) : Cal.tdY n = Cal.yr n ∧ Cal.tdM n = Cal.ymM n ∧ Cal.tdD n = Cal.ymD n := by
  simp [Cal.tdY, Cal.tdM, Cal.tdD, h, Cal.ymM, Cal.ymD]
theorem td_civ_ym (n : Int) (w : World) (h0 : 0 ≤ n) (h1 : n < 1000000) :
    Calls Tryd.prog 24 #[.int .i64 n] w fun e w' => e = .returned (.tuple #[.int .i64 (Cal.yr n), .int .i64 (Cal.ymM n), .int .i64 (Cal.ymD n), .bool true]) ∧ w = w' := by
  have hd := (Cal.isDay_iff n).2 ⟨h0, h1⟩
  have := td_civ_day n w hd
  obtain ⟨a, b, c⟩ := td_day hd
  rwa [a, b, c] at this
theorem td_ref_ym (n : Int) (w : World) (h0 : 0 ≤ n) (h1 : n < 1000000) :
    Calls Tryd.prog 38 #[.int .i64 n] w fun e w' => e = .returned (.tuple #[.int .i64 (Cal.yr n), .int .i64 (Cal.ymM n), .int .i64 (Cal.ymD n), .bool true]) ∧ Grown w w' := by
  have hd := (Cal.isDay_iff n).2 ⟨h0, h1⟩
  have := td_ref_day n w hd
  obtain ⟨a, b, c⟩ := td_day hd
  rwa [a, b, c] at this

set_option maxHeartbeats 2000000 in
theorem idx_gra_no (k s n : Int) (w : World) (h : Cal.validB k s = false ∨ Cal.isDayB n = false) :
    Calls Tryd.prog 11 #[gv k s, .int .i64 n] w fun e w' => e = .returned (.tuple #[.int .i64 0, .bool false]) ∧ Grown w w' := by
  by_cases hd : Cal.isDayB n = false
  · have HD := Lib.hid hd
    clear hd h
    go_enter Tryd.func11, Tryd.ntmps11
    go_wp2_with (go_at_call 24; refine (td_civ_none _ _ HD.out).mono ?_; rintro e w' ⟨rfl, rfl⟩)
    go_ret2
    exact ⟨rfl, (Grown.refl _).alloc _ _⟩
  · have HV := Lib.hid (h.resolve_right hd)
    have hd' : Cal.isDayB n = true := by cases e : Cal.isDayB n <;> simp_all
    have HD := Lib.hid hd'
    clear hd h hd'
    go_enter Tryd.func11, Tryd.ntmps11
    go_wp2_with fail
    refine (td_civ_day _ _ HD.out).mono ?_; rintro e w' ⟨rfl, rfl⟩
    go_wp2_with fail
    refine (valid_gra_no _ _ _ HV.out).mono ?_; rintro e w1 ⟨rfl, hg⟩
    go_wp2_with fail
    go_ret2
    exact ⟨rfl, grown_trans ((Grown.refl _).alloc _ _) hg⟩

def mv (n u d l : Int) : Int := ((Cal.yr n - 1600) * 12 + Cal.ymM n - 1 + l - (if Cal.ymD n < d then 1 else 0)) / u
theorem mv_lt {n u d l : Int} (c : Cal.ymD n < d) : mv n u d l = ((Cal.yr n - 1600) * 12 + Cal.ymM n - 1 + l - 1) / u := by unfold mv; rw [if_pos c]
theorem mv_ge {n u d l : Int} (c : ¬ Cal.ymD n < d) : mv n u d l = ((Cal.yr n - 1600) * 12 + Cal.ymM n - 1 + l) / u := by unfold mv; rw [if_neg c, Int.sub_zero]
theorem mv_eq {k s n : Int} (h1 : k ≠ 1) (h2 : k ≠ 2) : Cal.idx k s n = mv n (Cal.uM k) (Cal.uD k s) (Cal.uL k s) := by
  unfold Cal.idx mv Cal.mIdx
  rw [if_neg h1, if_neg h2]
  congr 1
  omega
theorem mv_nonneg {k s n : Int} (hv : Cal.validB k s = true) (h1 : k ≠ 1) (h2 : k ≠ 2) (h0 : 0 ≤ n) : 0 ≤ (Cal.yr n - 1600) * 12 + Cal.ymM n - 1 + Cal.uL k s - (if Cal.ymD n < Cal.uD k s then 1 else 0) := by
  obtain ⟨y1, m1, m2, d1, d2, _⟩ := Cal.ymd_spec n h0
  obtain ⟨a, b, c, d, e, f, g⟩ := Cal.unit_facts hv h1 h2
  split <;> omega
theorem uM_three (k : Int) : Cal.uM k = 1 ∨ Cal.uM k = 3 ∨ Cal.uM k = 12 := by unfold Cal.uM; (repeat' split) <;> omega
theorem bne_of {a b : Int} (h : a ≠ b) : (a == b) = false := beq_eq_false_iff_ne.2 h

set_option maxHeartbeats 2000000 in
theorem idx_gra_m (k s n u d l : Int) (w : World) (hu : u = 1 ∨ u = 3 ∨ u = 12)
    (hU : ∀ w, Calls Tryd.prog 27 #[gv k s] w fun e w' => e = .returned (.agg #[.int .i64 u, .int .i64 d, .int .i64 l]) ∧ Grown w w')
    (hv : Cal.validB k s = true) (k1 : (k == 1) = false) (k2 : (k == 2) = false) (h0 : 0 ≤ n) (h1 : n < 1000000) (l0 : 0 ≤ l) (l1 : l ≤ 12)
    (hm : 0 ≤ (Cal.yr n - 1600) * 12 + Cal.ymM n - 1 + l - (if Cal.ymD n < d then 1 else 0)) :
    Calls Tryd.prog 11 #[gv k s, .int .i64 n] w fun e w' => e = .returned (.tuple #[.int .i64 (mv n u d l), .bool true]) ∧ Grown w w' := by
  have HV := Lib.hid hv
  have HU := Lib.hid hU
  obtain ⟨y1, m1, m2, d1, d2, _⟩ := Cal.ymd_spec n h0
  obtain ⟨_, y3, _⟩ := Cal.yr_spec n h0
  have hnb := Cal.ny_bd _ y1
  have y2 : Cal.yr n ≤ 4339 := by omega
  have hdd := Cal.dim_bd (Cal.yr n) (Cal.ymM n)
  clear hv hU
  rename_i hx1 hx2 hx3
  clear hx1 hx3
  rcases hu with rfl | rfl | rfl
  all_goals
    by_cases c : Cal.ymD n < d
    all_goals
      first | (rw [if_pos c] at hm; rw [mv_lt c]) | (rw [if_neg c] at hm; rw [mv_ge c])
      go_enter Tryd.func11, Tryd.ntmps11
      go_wp2_with fail
      refine (td_civ_ym _ _ h0 h1).mono ?_; rintro e w' ⟨rfl, rfl⟩
      go_wp2_with fail
      refine (valid_gra_yes _ _ _ HV.out).mono ?_; rintro e w1 ⟨rfl, hg⟩
      obtain ⟨hc, hf⟩ := gcell hg
      go_wp2_with fail
      refine (HU.out _).mono ?_; rintro e w2 ⟨rfl, hg2⟩
      obtain ⟨hc2, hf2⟩ := gcell hg2
      go_wp2_with fail
      go_ret2
      exact ⟨ret_ib (by omega) rfl, (grown_trans (grown_trans ((Grown.refl _).alloc _ _) hg) hg2).alloc _ _⟩

set_option maxHeartbeats 2000000 in
theorem idx_gra_yes (k s n : Int) (w : World) (hT : Tab w) (hv : Cal.validB k s = true) (h0 : 0 ≤ n) (h1 : n < 1000000) :
    Calls Tryd.prog 11 #[gv k s, .int .i64 n] w fun e w' => e = .returned (.tuple #[.int .i64 (Cal.idx k s n), .bool true]) ∧ Grown w w' := by
  have HV := Lib.hid hv
  have HT := Lib.hid hT
  obtain ⟨y1, m1, m2, d1, d2, _⟩ := Cal.ymd_spec n h0
  obtain ⟨_, y3, _⟩ := Cal.yr_spec n h0
  have hnb := Cal.ny_bd _ y1
  have y2 : Cal.yr n ≤ 4339 := by omega
  have hdd := Cal.dim_bd (Cal.yr n) (Cal.ymM n)
  have hvv := (Cal.valid_iff k s).1 hv
  clear hT
  by_cases k1 : k = 1
  · subst k1
    clear hv hvv
    go_enter Tryd.func11, Tryd.ntmps11
    go_wp2_with fail
    refine (td_civ_ym _ _ h0 h1).mono ?_; rintro e w' ⟨rfl, rfl⟩
    go_wp2_with fail
    refine (valid_gra_yes _ _ _ HV.out).mono ?_; rintro e w1 ⟨rfl, hg⟩
    obtain ⟨hc, hf⟩ := gcell hg
    go_wp2_with fail
    go_ret2
    exact ⟨rfl, grown_trans ((Grown.refl _).alloc _ _) hg⟩
  · by_cases k2 : k = 2
    · subst k2
      clear hv hvv k1
      have hw := Cal.wIdx_bd n h0
      have hwl := Cal.wb_le (a := 1600) (b := Cal.yr n) (by omega) y1
      have hwu : Cal.wb (Cal.yr n) ≤ 1000000 := by
        have : Cal.wb (Cal.yr n) ≤ Cal.wb 4339 := by have := Cal.wb_le (a := Cal.yr n) (b := 4339) y1 y2; omega
        have e : Cal.wb 4339 ≤ 1000000 := by decide +kernel
        omega
      have HW := Lib.hid (show Cal.idx 2 s n = Cal.wb (Cal.yr n) + (Cal.dsm (Cal.ny (Cal.yr n)) + n - Cal.ny (Cal.yr n)) / 7 by simp [Cal.idx, Cal.wIdx])
      have hd := dsm_bd (Cal.ny (Cal.yr n))
      rw [Cal.wb_1600] at hwl
      have hw0 : 0 ≤ Cal.wb (Cal.yr n) := by omega
      clear hw hwl
      go_enter Tryd.func11, Tryd.ntmps11
      go_wp2_with fail
      refine (td_civ_ym _ _ h0 h1).mono ?_; rintro e w' ⟨rfl, rfl⟩
      go_wp2_with fail
      refine (valid_gra_yes _ _ _ HV.out).mono ?_; rintro e w1 ⟨rfl, hg⟩
      obtain ⟨hc, hf⟩ := gcell hg
      have HT1 := Lib.hid ((HT.out.alloc _ _).grown hg)
      go_wp2_with fail
      refine (wb_gra _ _ HT1.out y1 (by omega)).mono ?_; rintro e w' ⟨rfl, rfl⟩
      go_wp2_with fail
      refine (woy_gra _ _ _ y1 y3 h1).mono ?_; rintro e w' ⟨rfl, rfl⟩
      go_wp2_with fail
      go_ret2
      exact ⟨ret_ib HW.out.symm rfl, grown_trans ((Grown.refl _).alloc _ _) hg⟩
    · obtain ⟨_, _, l0, l1⟩ := unit_int hv k1 k2
      rw [mv_eq k1 k2]
      have hm := mv_nonneg hv k1 k2 h0
      exact idx_gra_m k s n _ _ _ w (uM_three k) (fun w => unit_gra k s w hv k1 k2) hv (bne_of k1) (bne_of k2) h0 h1 l0 l1 hm
end Go.Proofs.YtjphkgnngkbgcaaDoor
