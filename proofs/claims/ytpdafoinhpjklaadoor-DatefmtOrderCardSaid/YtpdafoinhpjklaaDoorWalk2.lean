/- Contracts of the program's FromDate and of what both FromDate call. -/
import Derived.Test.YtpdafoinhpjklaaDoorWalk1
import Derived.Test.YtpdafoinhpjklaaDoorCal2
namespace Go.Proofs.YtpdafoinhpjklaaDoor
open Go.ChangeShapes Go.WideShapes Go.ChangeAt Go.RowKit

theorem ret_ib {a b : Int} {c d : Bool} (h : a = b) (k : c = d) : Ending.returned (.tuple #[.int .i64 a, .bool c]) = .returned (.tuple #[.int .i64 b, .bool d]) := by rw [h, k]

set_option maxHeartbeats 400000 in
theorem ny_civ (y : Int) (w : World) (h1 : 1600 ≤ y) (h2 : y ≤ 9999) :
    Calls Tryd.prog 33 #[.int .i64 y] w fun e w' => e = .returned (.int .i64 (Cal.ny y)) ∧ w = w' := by
  go_enter Tryd.func33, Tryd.ntmps33
  go_wp2
  go_ret
  exact ⟨ret_int (by unfold Cal.ny; omega), rfl⟩

set_option maxHeartbeats 400000 in
theorem ny_ref (y : Int) (w : World) (h1 : 1600 ≤ y) (h2 : y ≤ 9999) :
    Calls Tryd.prog 37 #[.int .i64 y] w fun e w' => e = .returned (.int .i64 (Cal.ny y)) ∧ w = w' := by
  go_enter Tryd.func37, Tryd.ntmps37
  go_wp2
  go_ret
  exact ⟨ret_int (by unfold Cal.ny; omega), rfl⟩

set_option maxHeartbeats 400000 in
theorem isday_civ (n : Int) (w : World) :
    Calls Tryd.prog 31 #[.int .i64 n] w fun e w' => e = .returned (.bool (Cal.isDayB n)) ∧ w = w' := by
  go_enter Tryd.func31, Tryd.ntmps31
  go_wp2
  all_goals
    go_ret
    exact ⟨ret_bool (by simp [Cal.isDayB, *] <;> omega), rfl⟩

set_option maxHeartbeats 400000 in
theorem isday_ref (n : Int) (w : World) :
    Calls Tryd.prog 19 #[.int .i64 n] w fun e w' => e = .returned (.bool (Cal.isDayB n)) ∧ w = w' := by
  go_enter Tryd.func19, Tryd.ntmps19
  go_wp2
  all_goals
    go_ret
    exact ⟨ret_bool (by simp [Cal.isDayB, *] <;> omega), rfl⟩

set_option maxHeartbeats 1000000 in
theorem fd_civ_no (y m d : Int) (w : World) (hy : y ≤ 9223372036854775807) (h : y < 1600 ∨ 4339 < y ∨ d < 1 ∨ Cal.dim y m < d) :
    Calls Tryd.prog 25 #[.int .i64 y, .int .i64 m, .int .i64 d] w fun e w' => e = .returned (.tuple #[.int .i64 0, .bool false]) ∧ w = w' := by
  by_cases h1 : y < 1600
  · clear h
    go_enter Tryd.func25, Tryd.ntmps25
    go_wp2
    go_ret2
    exact ⟨rfl, rfl⟩
  · have h1' : 1600 ≤ y := by omega
    by_cases h2 : 4339 < y
    · clear h
      have b1 : (2739 < y - 1600) := by omega
      go_enter Tryd.func25, Tryd.ntmps25
      go_wp2
      go_ret2
      exact ⟨rfl, rfl⟩
    · have b1 : y - 1600 ≤ 2739 := by omega
      by_cases h3 : d < 1
      · clear h
        go_enter Tryd.func25, Tryd.ntmps25
        go_wp2
        go_ret2
        exact ⟨rfl, rfl⟩
      · have h4 : Cal.dim y m < d := by omega
        clear h
        go_enter Tryd.func25, Tryd.ntmps25
        go_wp2_with (go_at_call 34; refine (dim_civ _ _ _).mono ?_; rintro e w' ⟨rfl, rfl⟩)
        go_ret2
        exact ⟨rfl, rfl⟩

theorem isday_civ_yes (n : Int) (w : World) (h : 0 ≤ n) (h2 : n < 1000000) :
    Calls Tryd.prog 31 #[.int .i64 n] w fun e w' => e = .returned (.bool true) ∧ w = w' := by
  have e := (Cal.isDay_iff n).2 ⟨h, h2⟩
  rw [← e]; exact isday_civ n w
theorem isday_civ_no (n : Int) (w : World) (h : ¬ (0 ≤ n ∧ n < 1000000)) :
    Calls Tryd.prog 31 #[.int .i64 n] w fun e w' => e = .returned (.bool false) ∧ w = w' := by
  have e : Cal.isDayB n = false := by unfold Cal.isDayB; simpa using h
  rw [← e]; exact isday_civ n w

set_option maxHeartbeats 1000000 in
theorem fd_civ_mid (y m d : Int) (w : World) (h1 : 1600 ≤ y) (h2 : y ≤ 4339) (h3 : 1 ≤ d) (h4 : d ≤ Cal.dim y m) :
    Calls Tryd.prog 25 #[.int .i64 y, .int .i64 m, .int .i64 d] w fun e w' => e = .returned (.tuple #[.int .i64 (Cal.fdV y m d), .bool (Cal.fdB y m d)]) ∧ w = w' := by
  obtain ⟨m1, m2⟩ := Cal.mon_of h3 h4
  have db := Cal.dim_bd y m
  have nb := Cal.ny_bd y h1
  have b1 : y - 1600 ≤ 2739 := by omega
  go_enter Tryd.func25, Tryd.ntmps25
  go_wp2_with (first | (go_at_call 34; refine (dim_civ _ _ _).mono ?_; rintro e w' ⟨rfl, rfl⟩) | (go_at_call 33; refine (ny_civ _ _ (by omega) (by omega)).mono ?_; rintro e w' ⟨rfl, rfl⟩))
  go_loop [8, 9] (fun n i => ∃ k : Int, 1 ≤ k ∧ k ≤ m ∧ i = .int .i64 k ∧ n = .int .i64 (Cal.ny y + d - 1 + Cal.cum y k)) (fun _ i => (m - intOf i).toNat)
  case atStart => exact ⟨1, by omega, by omega, rfl, by rw [Cal.cum_one]; go_num⟩
  case round =>
    obtain ⟨k, hk1, hk2, rfl, rfl⟩ := hrel
    have cb := Cal.cum_bd y k
    have dk := Cal.dim_bd y k
    by_cases hlt : k < m
    · have HS := Lib.hid (Cal.cum_succ y k hk1 (by omega))
      go_wp2_with (go_at_call 34; refine (dim_civ _ _ _).mono ?_; rintro e w' ⟨rfl, rfl⟩)
      go_round
      case rel => exact ⟨k + 1, by omega, by omega, rfl, by rw [HS.out]; go_num⟩
      case measure => simp [intOf]; omega
    · obtain rfl : m = k := by omega
      by_cases hf : Cal.ny y + d - 1 + Cal.cum y m < 1000000
      · have HB := Lib.hid ((Cal.fdB_iff y m d).2 ⟨h1, h3, h4, by unfold Cal.num; omega⟩)
        go_wp2_with (go_at_call 31; refine (isday_civ_yes _ _ (by omega) (by omega)).mono ?_; rintro e w' ⟨rfl, rfl⟩)
        go_ret2
        exact ⟨ret_ib (by rw [Cal.fdV_yes HB.out]; unfold Cal.num; omega) HB.out.symm, rfl⟩
      · have HB := Lib.hid (Cal.fd_no (y := y) (m := m) (d := d) (by unfold Cal.num; omega))
        go_wp2_with (go_at_call 31; refine (isday_civ_no _ _ (by omega)).mono ?_; rintro e w' ⟨rfl, rfl⟩)
        go_ret2
        exact ⟨ret_ib (by rw [Cal.fdV_no HB.out]) HB.out.symm, rfl⟩

theorem fd_civ (y m d : Int) (w : World) (hy : y ≤ 9223372036854775807) :
    Calls Tryd.prog 25 #[.int .i64 y, .int .i64 m, .int .i64 d] w fun e w' => e = .returned (.tuple #[.int .i64 (Cal.fdV y m d), .bool (Cal.fdB y m d)]) ∧ w = w' := by
  by_cases h : y < 1600 ∨ 4339 < y ∨ d < 1 ∨ Cal.dim y m < d
  · have e : Cal.fdB y m d = false := by
      rcases h with h | h | h | h
      · exact Cal.fd_early h
      · exact Cal.fd_late h
      · exact Cal.fd_small h
      · exact Cal.fd_great h
    rw [Cal.fdV_no e, e]; exact fd_civ_no y m d w hy h
  · exact fd_civ_mid y m d w (by omega) (by omega) (by omega) (by omega)

end Go.Proofs.YtpdafoinhpjklaaDoor
