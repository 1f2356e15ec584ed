/- The walk of the law of years (4800 months added up to four times): it returns true at every input. -/
import Derived.Test.YtgojijlomlklnaaLaws1b
namespace Go.Proofs.Ytgojijlomlklnaa
open Go.ChangeShapes Go.WideShapes Go.ChangeAt Go.RowKit

theorem am_years (n k : Int) (w : World) (h : Cal.isDayB n = true) (hk : 0 ≤ k) (hn : n + 146097 * k < 1000000) :
    Calls Try.prog 22 #[.int .i64 n, .int .i64 (4800 * k)] w fun e w' => e = .returned (.tuple #[.int .i64 (n + 146097 * k), .bool true]) ∧ w = w' := by
  obtain ⟨a, b, _, _, _⟩ := Cal.am_4800_yes h hk hn
  have := am_civ n (4800 * k) w; rwa [a, b] at this
theorem td_years (n k : Int) (w : World) (h : Cal.isDayB n = true) (hk : 0 ≤ k) (hn : n + 146097 * k < 1000000) :
    Calls Try.prog 18 #[.int .i64 (n + 146097 * k)] w fun e w' => e = .returned (.tuple #[.int .i64 (Cal.tdY (n + 146097 * k)), .int .i64 (Cal.tdM n), .int .i64 (Cal.tdD n), .bool true]) ∧ w = w' := by
  obtain ⟨_, _, c, d, e⟩ := Cal.am_4800_yes h hk hn
  have := td_civ_day (n + 146097 * k) w c; rwa [d, e] at this
theorem wd_years (n k : Int) (w : World) (h : Cal.isDayB n = true) (hk : 0 ≤ k) (hn : n + 146097 * k < 1000000) :
    Calls Try.prog 20 #[.int .i64 (n + 146097 * k)] w fun e w' => e = .returned (.int .i64 (Cal.wd n)) ∧ w = w' := by
  obtain ⟨_, _, c, _, _⟩ := Cal.am_4800_yes h hk hn
  have := wd_civ (n + 146097 * k) w; rwa [Cal.wd_400 h c] at this

set_option maxHeartbeats 1000000 in
theorem law_CivilYears (n u : Int) (w : World) (h0 : 0 ≤ u) (h1 : u ≤ 255) :
    Calls Try.prog 9 #[.int .i64 n, .int .u8 u] w fun e w' => e = .returned (.bool true) ∧ Grown w w' := by
  cases hd : Cal.isDayB n
  · have hn : n < 0 ∨ 1000000 ≤ n := by
      by_cases k : 0 ≤ n ∧ n < 1000000
      · rw [(Cal.isDay_iff n).2 k] at hd; cases hd
      · omega
    have HD := Lib.hid hd
    clear hd
    rcases hn with hn | hn
    · go_enter Try.func9, Try.ntmps9
      go_wp2_with fail
      refine (am_none _ _ _ (Cal.am_noday HD.out)).mono ?_; rintro e w' ⟨rfl, rfl⟩
      go_wp2_with fail
      refine (awake_law _).mono ?_; rintro e w' ⟨rfl, rfl⟩
      go_wp2_with fail
      go_ret
      exact ⟨rfl, Grown.refl _⟩
    · have h0' : 0 ≤ n := by omega
      have h2 : 1000000 - 146097 * (u % 5) ≤ n := by omega
      go_enter Try.func9, Try.ntmps9
      go_wp2_with fail
      refine (am_none _ _ _ (Cal.am_noday HD.out)).mono ?_; rintro e w' ⟨rfl, rfl⟩
      go_wp2_with fail
      refine (awake_law _).mono ?_; rintro e w' ⟨rfl, rfl⟩
      go_wp2_with fail
      go_ret
      exact ⟨ret_bool (by simp <;> omega), Grown.refl _⟩
  · obtain ⟨n0, n1⟩ := (Cal.isDay_iff n).1 hd
    have HD := Lib.hid hd
    clear hd
    by_cases hn : 1000000 ≤ n + 146097 * (u % 5)
    · have h2 : 1000000 - 146097 * (u % 5) ≤ n := by omega
      have HB := Lib.hid (Cal.am_4800_no HD.out (show 0 ≤ u % 5 by omega) hn)
      go_enter Try.func9, Try.ntmps9
      go_wp2_with fail
      refine (am_none _ _ _ HB.out).mono ?_; rintro e w' ⟨rfl, rfl⟩
      go_wp2_with fail
      refine (awake_law _).mono ?_; rintro e w' ⟨rfl, rfl⟩
      go_wp2_with fail
      go_ret
      exact ⟨ret_bool (by simp <;> omega), Grown.refl _⟩
    · go_enter Try.func9, Try.ntmps9
      go_wp2_with fail
      refine (am_years _ _ _ HD.out (by omega) (by omega)).mono ?_; rintro e w' ⟨rfl, rfl⟩
      go_wp2_with fail
      refine (td_civ_day _ _ HD.out).mono ?_; rintro e w' ⟨rfl, rfl⟩
      go_wp2_with fail
      refine (td_years _ _ _ HD.out (by omega) (by omega)).mono ?_; rintro e w' ⟨rfl, rfl⟩
      go_wp2_with fail
      refine (awake_law _).mono ?_; rintro e w' ⟨rfl, rfl⟩
      go_wp2_with fail
      refine (wd_years _ _ _ HD.out (by omega) (by omega)).mono ?_; rintro e w' ⟨rfl, rfl⟩
      go_wp2_with fail
      refine (wd_civ _ _).mono ?_; rintro e w' ⟨rfl, rfl⟩
      go_wp2_with fail
      go_ret
      exact ⟨ret_bool (by simp), Grown.refl _⟩
end Go.Proofs.Ytgojijlomlklnaa
