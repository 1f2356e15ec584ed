/- The walks of the laws of chapter 1 that relate several calls: round trip, next day, years, order. Each returns true at every input. -/
import Derived.Test.YtgojijlomlklnaaLaws1
import Derived.Test.YtgojijlomlklnaaCal3
namespace Go.Proofs.Ytgojijlomlklnaa
open Go.ChangeShapes Go.WideShapes Go.ChangeAt Go.RowKit

theorem fd_at_date (n : Int) (w : World) (h : Cal.isDayB n = true) :
    Calls Try.prog 16 #[.int .i64 (Cal.tdY n), .int .i64 (Cal.tdM n), .int .i64 (Cal.tdD n)] w fun e w' => e = .returned (.tuple #[.int .i64 n, .bool true]) ∧ w = w' := by
  obtain ⟨a, b⟩ := Cal.fd_of_td h
  have hs := Cal.td_spec n h
  have := fd_civ (Cal.tdY n) (Cal.tdM n) (Cal.tdD n) w (by omega)
  rwa [a, b] at this
theorem fd_yes (y m d : Int) (w : World) (h : Cal.fdB y m d = true) (hy : y ≤ 9223372036854775807) :
    Calls Try.prog 16 #[.int .i64 y, .int .i64 m, .int .i64 d] w fun e w' => e = .returned (.tuple #[.int .i64 (Cal.fdV y m d), .bool true]) ∧ w = w' := by
  have := fd_civ y m d w hy; rwa [h] at this
theorem fd_none (y m d : Int) (w : World) (h : Cal.fdB y m d = false) (hy : y ≤ 9223372036854775807) :
    Calls Try.prog 16 #[.int .i64 y, .int .i64 m, .int .i64 d] w fun e w' => e = .returned (.tuple #[.int .i64 0, .bool false]) ∧ w = w' := by
  have := fd_civ y m d w hy; rwa [h, Cal.fdV_no h] at this
theorem td_at_fd (y m d : Int) (w : World) (h : Cal.fdB y m d = true) :
    Calls Try.prog 18 #[.int .i64 (Cal.fdV y m d)] w fun e w' => e = .returned (.tuple #[.int .i64 y, .int .i64 m, .int .i64 d, .bool true]) ∧ w = w' := by
  obtain ⟨a, b, c, e⟩ := Cal.td_of_fd h
  have := td_civ_day (Cal.fdV y m d) w a
  rwa [b, c, e] at this

set_option maxHeartbeats 1000000 in
theorem law_CivilRoundTrip (n y m d : Int) (w : World) (hy : y ≤ 9223372036854775807) :
    Calls Try.prog 6 #[.int .i64 n, .int .i64 y, .int .i64 m, .int .i64 d] w fun e w' => e = .returned (.bool true) ∧ Grown w w' := by
  cases hn : Cal.isDayB n
  · have HN := Lib.hid hn
    have h0 : n < 0 ∨ 1000000 ≤ n := by
      by_cases k : 0 ≤ n ∧ n < 1000000
      · rw [(Cal.isDay_iff n).2 k] at hn; cases hn
      · omega
    clear hn
    cases hf : Cal.fdB y m d
    · have HF := Lib.hid hf
      clear hf
      rcases h0 with h0 | h0
      · go_enter Try.func6, Try.ntmps6
        go_wp2_with fail
        refine (td_civ_none _ _ HN.out).mono ?_; rintro e w' ⟨rfl, rfl⟩
        go_wp2_with fail
        refine (fd_none 0 0 0 _ (by decide) (by omega)).mono ?_; rintro e w' ⟨rfl, rfl⟩
        go_wp2_with fail
        refine (fd_none _ _ _ _ HF.out hy).mono ?_; rintro e w' ⟨rfl, rfl⟩
        go_wp2_with fail
        refine (td_civ _ _).mono ?_; rintro e w' ⟨rfl, rfl⟩
        go_wp2_with fail
        refine (awake_law _).mono ?_; rintro e w' ⟨rfl, rfl⟩
        go_wp2_with fail
        go_ret
        exact ⟨ret_bool (by simp <;> omega), Grown.refl _⟩
      · have h0' : 0 ≤ n := by omega
        go_enter Try.func6, Try.ntmps6
        go_wp2_with fail
        refine (td_civ_none _ _ HN.out).mono ?_; rintro e w' ⟨rfl, rfl⟩
        go_wp2_with fail
        refine (fd_none 0 0 0 _ (by decide) (by omega)).mono ?_; rintro e w' ⟨rfl, rfl⟩
        go_wp2_with fail
        refine (fd_none _ _ _ _ HF.out hy).mono ?_; rintro e w' ⟨rfl, rfl⟩
        go_wp2_with fail
        refine (td_civ _ _).mono ?_; rintro e w' ⟨rfl, rfl⟩
        go_wp2_with fail
        refine (awake_law _).mono ?_; rintro e w' ⟨rfl, rfl⟩
        go_wp2_with fail
        go_ret
        exact ⟨ret_bool (by simp <;> omega), Grown.refl _⟩
    · have HF := Lib.hid hf
      clear hf
      rcases h0 with h0 | h0
      · go_enter Try.func6, Try.ntmps6
        go_wp2_with fail
        refine (td_civ_none _ _ HN.out).mono ?_; rintro e w' ⟨rfl, rfl⟩
        go_wp2_with fail
        refine (fd_none 0 0 0 _ (by decide) (by omega)).mono ?_; rintro e w' ⟨rfl, rfl⟩
        go_wp2_with fail
        refine (fd_yes _ _ _ _ HF.out hy).mono ?_; rintro e w' ⟨rfl, rfl⟩
        go_wp2_with fail
        refine (td_at_fd _ _ _ _ HF.out).mono ?_; rintro e w' ⟨rfl, rfl⟩
        go_wp2_with fail
        refine (awake_law _).mono ?_; rintro e w' ⟨rfl, rfl⟩
        go_wp2_with fail
        go_ret
        exact ⟨ret_bool (by simp <;> omega), Grown.refl _⟩
      · have h0' : 0 ≤ n := by omega
        go_enter Try.func6, Try.ntmps6
        go_wp2_with fail
        refine (td_civ_none _ _ HN.out).mono ?_; rintro e w' ⟨rfl, rfl⟩
        go_wp2_with fail
        refine (fd_none 0 0 0 _ (by decide) (by omega)).mono ?_; rintro e w' ⟨rfl, rfl⟩
        go_wp2_with fail
        refine (fd_yes _ _ _ _ HF.out hy).mono ?_; rintro e w' ⟨rfl, rfl⟩
        go_wp2_with fail
        refine (td_at_fd _ _ _ _ HF.out).mono ?_; rintro e w' ⟨rfl, rfl⟩
        go_wp2_with fail
        refine (awake_law _).mono ?_; rintro e w' ⟨rfl, rfl⟩
        go_wp2_with fail
        go_ret
        exact ⟨ret_bool (by simp <;> omega), Grown.refl _⟩
  · have HN := Lib.hid hn
    obtain ⟨h0, h1⟩ := (Cal.isDay_iff n).1 hn
    clear hn
    cases hf : Cal.fdB y m d
    · have HF := Lib.hid hf
      clear hf
      go_enter Try.func6, Try.ntmps6
      go_wp2_with fail
      refine (td_civ_day _ _ HN.out).mono ?_; rintro e w' ⟨rfl, rfl⟩
      go_wp2_with fail
      refine (fd_at_date _ _ HN.out).mono ?_; rintro e w' ⟨rfl, rfl⟩
      go_wp2_with fail
      refine (fd_none _ _ _ _ HF.out hy).mono ?_; rintro e w' ⟨rfl, rfl⟩
      go_wp2_with fail
      refine (td_civ _ _).mono ?_; rintro e w' ⟨rfl, rfl⟩
      go_wp2_with fail
      refine (awake_law _).mono ?_; rintro e w' ⟨rfl, rfl⟩
      go_wp2_with fail
      go_ret
      exact ⟨ret_bool (by simp <;> omega), Grown.refl _⟩
    · have HF := Lib.hid hf
      clear hf
      go_enter Try.func6, Try.ntmps6
      go_wp2_with fail
      refine (td_civ_day _ _ HN.out).mono ?_; rintro e w' ⟨rfl, rfl⟩
      go_wp2_with fail
      refine (fd_at_date _ _ HN.out).mono ?_; rintro e w' ⟨rfl, rfl⟩
      go_wp2_with fail
      refine (fd_yes _ _ _ _ HF.out hy).mono ?_; rintro e w' ⟨rfl, rfl⟩
      go_wp2_with fail
      refine (td_at_fd _ _ _ _ HF.out).mono ?_; rintro e w' ⟨rfl, rfl⟩
      go_wp2_with fail
      refine (awake_law _).mono ?_; rintro e w' ⟨rfl, rfl⟩
      go_wp2_with fail
      go_ret
      exact ⟨ret_bool (by simp <;> omega), Grown.refl _⟩

theorem td_next_same (n : Int) (w : World) (h0 : 0 ≤ n) (h1 : n < 999999) (h : Cal.tdD n < Cal.dim (Cal.tdY n) (Cal.tdM n)) :
    Calls Try.prog 18 #[.int .i64 (n + 1)] w fun e w' => e = .returned (.tuple #[.int .i64 (Cal.tdY n), .int .i64 (Cal.tdM n), .int .i64 (Cal.tdD n + 1), .bool true]) ∧ w = w' := by
  obtain ⟨a, b, c⟩ := (Cal.td_next h0 h1).1 h
  have := td_civ_day (n + 1) w ((Cal.isDay_iff _).2 ⟨by omega, by omega⟩)
  rwa [a, b, c] at this
theorem td_next_month (n : Int) (w : World) (h0 : 0 ≤ n) (h1 : n < 999999) (h : Cal.tdD n = Cal.dim (Cal.tdY n) (Cal.tdM n)) (hm : Cal.tdM n < 12) :
    Calls Try.prog 18 #[.int .i64 (n + 1)] w fun e w' => e = .returned (.tuple #[.int .i64 (Cal.tdY n), .int .i64 (Cal.tdM n + 1), .int .i64 1, .bool true]) ∧ w = w' := by
  obtain ⟨a, b, c⟩ := (Cal.td_next h0 h1).2.1 h hm
  have := td_civ_day (n + 1) w ((Cal.isDay_iff _).2 ⟨by omega, by omega⟩)
  rwa [a, b, c] at this
theorem td_next_year (n : Int) (w : World) (h0 : 0 ≤ n) (h1 : n < 999999) (h : Cal.tdD n = Cal.dim (Cal.tdY n) (Cal.tdM n)) (hm : Cal.tdM n = 12) :
    Calls Try.prog 18 #[.int .i64 (n + 1)] w fun e w' => e = .returned (.tuple #[.int .i64 (Cal.tdY n + 1), .int .i64 1, .int .i64 1, .bool true]) ∧ w = w' := by
  obtain ⟨a, b, c⟩ := (Cal.td_next h0 h1).2.2 h hm
  have := td_civ_day (n + 1) w ((Cal.isDay_iff _).2 ⟨by omega, by omega⟩)
  rwa [a, b, c] at this
theorem wd_next_day (n : Int) (w : World) (h0 : 0 ≤ n) (h1 : n < 999999) :
    Calls Try.prog 20 #[.int .i64 (n + 1)] w fun e w' => e = .returned (.int .i64 (Cal.wd n % 7 + 1)) ∧ w = w' := by
  have := wd_civ (n + 1) w
  rwa [Cal.wd_next h0 h1] at this
theorem wd_bd (n : Int) : 0 ≤ Cal.wd n ∧ Cal.wd n ≤ 7 := by unfold Cal.wd; split <;> omega

set_option maxHeartbeats 1000000 in
theorem law_CivilNextDay (n : Int) (w : World) :
    Calls Try.prog 7 #[.int .i64 n] w fun e w' => e = .returned (.bool true) ∧ Grown w w' := by
  by_cases h0 : n < 0
  · go_enter Try.func7, Try.ntmps7
    go_wp2_with (go_at_call 11; refine (awake_law _).mono ?_; rintro e w' ⟨rfl, rfl⟩)
    go_ret
    exact ⟨rfl, Grown.refl _⟩
  · have h0' : 0 ≤ n := by omega
    by_cases h1 : 999999 ≤ n
    · go_enter Try.func7, Try.ntmps7
      go_wp2_with (go_at_call 11; refine (awake_law _).mono ?_; rintro e w' ⟨rfl, rfl⟩)
      go_ret
      exact ⟨rfl, Grown.refl _⟩
    · have h1' : n < 999999 := by omega
      have hd : Cal.isDayB n = true := (Cal.isDay_iff n).2 ⟨h0', by omega⟩
      obtain ⟨s1, s2, s3, s4, s5, s6, _⟩ := Cal.td_spec n hd
      have HD := Lib.hid hd
      have wb := wd_bd n
      have db := Cal.dim_bd (Cal.tdY n) (Cal.tdM n)
      clear hd
      by_cases hl : Cal.tdD n < Cal.dim (Cal.tdY n) (Cal.tdM n)
      · have hl1 : (Cal.tdD n == Cal.dim (Cal.tdY n) (Cal.tdM n)) = false := beq_eq_false_iff_ne.2 (by omega)
        go_enter Try.func7, Try.ntmps7
        go_wp2_with fail
        refine (td_civ_day _ _ HD.out).mono ?_; rintro e w' ⟨rfl, rfl⟩
        go_wp2_with fail
        refine (td_next_same _ _ h0' h1' hl).mono ?_; rintro e w' ⟨rfl, rfl⟩
        go_wp2_with fail
        refine (dim_civ _ _ _).mono ?_; rintro e w' ⟨rfl, rfl⟩
        go_wp2_with fail
        refine (awake_law _).mono ?_; rintro e w' ⟨rfl, rfl⟩
        go_wp2_with fail
        refine (wd_next_day _ _ h0' h1').mono ?_; rintro e w' ⟨rfl, rfl⟩
        go_wp2_with fail
        refine (wd_civ _ _).mono ?_; rintro e w' ⟨rfl, rfl⟩
        go_wp2_with fail
        go_ret
        exact ⟨ret_bool (by simp), Grown.refl _⟩
      · have HE := Lib.hid (show Cal.tdD n = Cal.dim (Cal.tdY n) (Cal.tdM n) by omega)
        have hl1 : (Cal.tdD n == Cal.dim (Cal.tdY n) (Cal.tdM n)) = true := beq_iff_eq.2 HE.out
        by_cases hm : Cal.tdM n < 12
        · have k1 : (Cal.tdM n + 1 == Cal.tdM n) = false := beq_eq_false_iff_ne.2 (by omega)
          go_enter Try.func7, Try.ntmps7
          go_wp2_with fail
          refine (td_civ_day _ _ HD.out).mono ?_; rintro e w' ⟨rfl, rfl⟩
          go_wp2_with fail
          refine (td_next_month _ _ h0' h1' HE.out hm).mono ?_; rintro e w' ⟨rfl, rfl⟩
          go_wp2_with fail
          refine (dim_civ _ _ _).mono ?_; rintro e w' ⟨rfl, rfl⟩
          go_wp2_with fail
          refine (awake_law _).mono ?_; rintro e w' ⟨rfl, rfl⟩
          go_wp2_with fail
          refine (wd_next_day _ _ h0' h1').mono ?_; rintro e w' ⟨rfl, rfl⟩
          go_wp2_with fail
          refine (wd_civ _ _).mono ?_; rintro e w' ⟨rfl, rfl⟩
          go_wp2_with fail
          go_ret
          exact ⟨ret_bool (by simp), Grown.refl _⟩
        · have HM := Lib.hid (show Cal.tdM n = 12 by omega)
          have k1 : (Cal.tdM n == 12) = true := beq_iff_eq.2 HM.out
          have k2 : (Cal.tdY n + 1 == Cal.tdY n) = false := beq_eq_false_iff_ne.2 (by omega)
          go_enter Try.func7, Try.ntmps7
          go_wp2_with fail
          refine (td_civ_day _ _ HD.out).mono ?_; rintro e w' ⟨rfl, rfl⟩
          go_wp2_with fail
          refine (td_next_year _ _ h0' h1' HE.out HM.out).mono ?_; rintro e w' ⟨rfl, rfl⟩
          go_wp2_with fail
          refine (dim_civ _ _ _).mono ?_; rintro e w' ⟨rfl, rfl⟩
          go_wp2_with fail
          refine (awake_law _).mono ?_; rintro e w' ⟨rfl, rfl⟩
          go_wp2_with fail
          refine (wd_next_day _ _ h0' h1').mono ?_; rintro e w' ⟨rfl, rfl⟩
          go_wp2_with fail
          refine (wd_civ _ _).mono ?_; rintro e w' ⟨rfl, rfl⟩
          go_wp2_with fail
          go_ret
          exact ⟨ret_bool (by simp), Grown.refl _⟩

theorem am_yes (n k : Int) (w : World) (h : Cal.amB n k = true) :
    Calls Try.prog 22 #[.int .i64 n, .int .i64 k] w fun e w' => e = .returned (.tuple #[.int .i64 (Cal.amV n k), .bool true]) ∧ w = w' := by
  have := am_civ n k w; rwa [h] at this
theorem am_none (n k : Int) (w : World) (h : Cal.amB n k = false) :
    Calls Try.prog 22 #[.int .i64 n, .int .i64 k] w fun e w' => e = .returned (.tuple #[.int .i64 0, .bool false]) ∧ w = w' := by
  have := am_civ n k w; rwa [h, Cal.amV_no h] at this

set_option maxHeartbeats 1000000 in
theorem law_CivilMonotone (a b k : Int) (w : World) :
    Calls Try.prog 10 #[.int .i64 a, .int .i64 b, .int .i64 k] w fun e w' => e = .returned (.bool true) ∧ Grown w w' := by
  cases ha : Cal.amB a k
  · have HA := Lib.hid ha
    clear ha
    go_enter Try.func10, Try.ntmps10
    go_wp2_with fail
    refine (am_none _ _ _ HA.out).mono ?_; rintro e w' ⟨rfl, rfl⟩
    go_wp2_with fail
    refine (am_civ _ _ _).mono ?_; rintro e w' ⟨rfl, rfl⟩
    go_wp2_with fail
    refine (awake_law _).mono ?_; rintro e w' ⟨rfl, rfl⟩
    go_wp2_with fail
    go_ret
    exact ⟨rfl, Grown.refl _⟩
  · cases hb : Cal.amB b k
    · have HA := Lib.hid ha
      have HB := Lib.hid hb
      clear ha hb
      go_enter Try.func10, Try.ntmps10
      go_wp2_with fail
      refine (am_yes _ _ _ HA.out).mono ?_; rintro e w' ⟨rfl, rfl⟩
      go_wp2_with fail
      refine (am_none _ _ _ HB.out).mono ?_; rintro e w' ⟨rfl, rfl⟩
      go_wp2_with fail
      refine (awake_law _).mono ?_; rintro e w' ⟨rfl, rfl⟩
      go_wp2_with fail
      go_ret
      exact ⟨rfl, Grown.refl _⟩
    · by_cases hab : b < a
      · have HA := Lib.hid ha
        have HB := Lib.hid hb
        clear ha hb
        go_enter Try.func10, Try.ntmps10
        go_wp2_with fail
        refine (am_yes _ _ _ HA.out).mono ?_; rintro e w' ⟨rfl, rfl⟩
        go_wp2_with fail
        refine (am_yes _ _ _ HB.out).mono ?_; rintro e w' ⟨rfl, rfl⟩
        go_wp2_with fail
        refine (awake_law _).mono ?_; rintro e w' ⟨rfl, rfl⟩
        go_wp2_with fail
        go_ret
        exact ⟨rfl, Grown.refl _⟩
      · have hle := Cal.am_mono (show a ≤ b by omega) ha hb
        have HA := Lib.hid ha
        have HB := Lib.hid hb
        clear ha hb
        go_enter Try.func10, Try.ntmps10
        go_wp2_with fail
        refine (am_yes _ _ _ HA.out).mono ?_; rintro e w' ⟨rfl, rfl⟩
        go_wp2_with fail
        refine (am_yes _ _ _ HB.out).mono ?_; rintro e w' ⟨rfl, rfl⟩
        go_wp2_with fail
        refine (awake_law _).mono ?_; rintro e w' ⟨rfl, rfl⟩
        go_wp2_with fail
        go_ret
        exact ⟨ret_bool (by simp), Grown.refl _⟩

end Go.Proofs.Ytgojijlomlklnaa
