/- Contracts of ToDate, the program's and the reference's, and of what they call. -/
import Derived.Test.YtpdafoinhpjklaaDoorWalk2
namespace Go.Proofs.YtpdafoinhpjklaaDoor
open Go.ChangeShapes Go.WideShapes Go.ChangeAt Go.RowKit

theorem results_tmp4 {fn : Func} {t u v x : Tmp} (h : fn.results = #[.tmp t, .tmp u, .tmp v, .tmp x]) (tmps : Array Value) (P : Program) (w : World) :
    (results fn tmps).run P w = .ok (.tuple #[tmps.getD t undef, tmps.getD u undef, tmps.getD v undef, tmps.getD x undef]) w := by
  simp [results, h]
theorem ret_iiib {a b c a' b' c' : Int} {d d' : Bool} (h1 : a = a') (h2 : b = b') (h3 : c = c') (h4 : d = d') :
    Ending.returned (.tuple #[.int .i64 a, .int .i64 b, .int .i64 c, .bool d]) = .returned (.tuple #[.int .i64 a', .int .i64 b', .int .i64 c', .bool d']) := by rw [h1, h2, h3, h4]

theorem isday_ref_yes (n : Int) (w : World) (h : 0 ≤ n) (h2 : n < 1000000) :
    Calls Tryd.prog 19 #[.int .i64 n] w fun e w' => e = .returned (.bool true) ∧ w = w' := by
  have e := (Cal.isDay_iff n).2 ⟨h, h2⟩
  rw [← e]; exact isday_ref n w
theorem isday_ref_no (n : Int) (w : World) (h : ¬ (0 ≤ n ∧ n < 1000000)) :
    Calls Tryd.prog 19 #[.int .i64 n] w fun e w' => e = .returned (.bool false) ∧ w = w' := by
  have e : Cal.isDayB n = false := by unfold Cal.isDayB; simpa using h
  rw [← e]; exact isday_ref n w

set_option maxHeartbeats 400000 in
theorem yr_civ (n : Int) (w : World) (h0 : 0 ≤ n) (h1 : n < 1000000) :
    Calls Tryd.prog 32 #[.int .i64 n] w fun e w' => e = .returned (.int .i64 (Cal.yr n)) ∧ w = w' := by
  by_cases h : n < Cal.ny (1600 + (n + 1) * 400 / 146097)
  · have HY := Lib.hid (show Cal.yr n = 1600 + (n + 1) * 400 / 146097 - 1 by unfold Cal.yr Cal.yrE; rw [if_pos h])
    go_enter Tryd.func32, Tryd.ntmps32
    go_wp2_with (go_at_call 33; refine (ny_civ _ _ (by omega) (by omega)).mono ?_; rintro e w' ⟨rfl, rfl⟩)
    go_ret
    exact ⟨ret_int HY.out.symm, rfl⟩
  · have HY := Lib.hid (show Cal.yr n = 1600 + (n + 1) * 400 / 146097 by unfold Cal.yr Cal.yrE; rw [if_neg h])
    go_enter Tryd.func32, Tryd.ntmps32
    go_wp2_with (go_at_call 33; refine (ny_civ _ _ (by omega) (by omega)).mono ?_; rintro e w' ⟨rfl, rfl⟩)
    go_ret
    exact ⟨ret_int HY.out.symm, rfl⟩

set_option maxHeartbeats 1000000 in
theorem td_civ_yes (n y : Int) (w : World) (hn : Cal.isDayB n = true) (hyr : Cal.yr n = y) :
    Calls Tryd.prog 20 #[.int .i64 n] w fun e w' => e = .returned (.tuple #[.int .i64 (Cal.tdY n), .int .i64 (Cal.tdM n), .int .i64 (Cal.tdD n), .bool (Cal.isDayB n)]) ∧ w = w' := by
  obtain ⟨h0, h1⟩ := (Cal.isDay_iff n).1 hn
  obtain ⟨y1, y2, y3⟩ := Cal.yr_spec n h0
  have HT := Lib.hid (show Cal.tdY n = y ∧ Cal.tdM n = Cal.mo y (n - Cal.ny y) ∧ Cal.tdD n = n - Cal.ny y - Cal.cum y (Cal.mo y (n - Cal.ny y)) + 1 by simp [Cal.tdY, Cal.tdM, Cal.tdD, hn, hyr])
  rw [hyr] at y1 y2 y3
  have HN := Lib.hid hn
  have HYR := Lib.hid hyr
  have hs := Cal.ny_succ y y1
  have y4 : n < Cal.ny y + 365 + Cal.leap y := by omega
  have y5 : y ≤ 4339 := by have := Cal.ny_bd y y1; omega
  have l1 := Cal.leap_01 y
  clear hn hyr hs y3
  go_enter Tryd.func20, Tryd.ntmps20
  go_wp2_with (first | (go_at_call 31; refine (isday_civ_yes _ _ (by omega) (by omega)).mono ?_; rintro e w' ⟨rfl, rfl⟩) | (go_at_call 32; refine (yr_civ _ _ (by omega) (by omega)).mono ?_; rintro e w' ⟨rfl, rfl⟩; rw [HYR.out]) | (go_at_call 33; refine (ny_civ _ _ (by omega) (by omega)).mono ?_; rintro e w' ⟨rfl, rfl⟩))
  go_loop [6, 3] (fun r i => ∃ k : Int, 1 ≤ k ∧ k ≤ 12 ∧ i = .int .i64 k ∧ r = .int .i64 (n - Cal.ny y - Cal.cum y k) ∧ Cal.cum y k ≤ n - Cal.ny y) (fun _ i => (13 - intOf i).toNat)
  case atStart => exact ⟨1, by omega, by omega, rfl, by rw [Cal.cum_one]; go_num, by rw [Cal.cum_one]; omega⟩
  case round =>
    obtain ⟨k, hk1, hk2, rfl, rfl, hr⟩ := hrel
    have cb := Cal.cum_bd y k
    have dk := Cal.dim_bd y k
    have hs := Cal.cum_succ y k hk1 hk2
    have h13 := Cal.cum_13 y
    by_cases hlt : Cal.dim y k ≤ n - Cal.ny y - Cal.cum y k
    · have hk3 : k < 12 := by
        by_cases e : k = 12
        · subst e; rw [show (12 : Int) + 1 = 13 from rfl, h13] at hs; omega
        · omega
      have HS := Lib.hid hs
      clear hs h13
      go_wp2_with (go_at_call 34; refine (dim_civ _ _ _).mono ?_; rintro e w' ⟨rfl, rfl⟩)
      go_round
      case rel => exact ⟨k + 1, by omega, by omega, rfl, by rw [HS.out]; go_num, by rw [HS.out]; omega⟩
      case measure => simp [intOf]; omega
    · have HM := Lib.hid (Cal.mo_uniq y (n - Cal.ny y) k hk1 hk2 hr (by omega))
      clear hs h13
      go_wp2_with (go_at_call 34; refine (dim_civ _ _ _).mono ?_; rintro e w' ⟨rfl, rfl⟩)
      ((try simp only [Exit.inBlock, Exit.then]); refine bodyPost_ret (results_tmp4 rfl _ _ _) rfl ?_)
      obtain ⟨t1, t2, t3⟩ := HT.out
      exact ⟨ret_iiib t1.symm (by rw [t2, ← HM.out]) (by rw [t3, ← HM.out]) HN.out.symm, rfl⟩

set_option maxHeartbeats 400000 in
theorem td_civ (n : Int) (w : World) :
    Calls Tryd.prog 20 #[.int .i64 n] w fun e w' => e = .returned (.tuple #[.int .i64 (Cal.tdY n), .int .i64 (Cal.tdM n), .int .i64 (Cal.tdD n), .bool (Cal.isDayB n)]) ∧ w = w' := by
  cases hn : Cal.isDayB n
  · have h : ¬ (0 ≤ n ∧ n < 1000000) := fun k => by rw [(Cal.isDay_iff n).2 k] at hn; cases hn
    obtain ⟨t1, t2, t3, _⟩ := Cal.td_no hn
    rw [t1, t2, t3]
    clear hn t1 t2 t3
    go_enter Tryd.func20, Tryd.ntmps20
    go_wp2_with (go_at_call 31; refine (isday_civ_no _ _ h).mono ?_; rintro e w' ⟨rfl, rfl⟩)
    ((try simp only [Exit.inBlock, Exit.then]); refine bodyPost_ret (results_tmp4 rfl _ _ _) rfl ?_)
    exact ⟨rfl, rfl⟩
  · have := td_civ_yes n _ w hn rfl
    rwa [hn] at this

set_option maxHeartbeats 1000000 in
theorem td_ref_yes (n : Int) (w : World) (hn : Cal.isDayB n = true) :
    Calls Tryd.prog 22 #[.int .i64 n] w fun e w' => e = .returned (.tuple #[.int .i64 (Cal.tdY n), .int .i64 (Cal.tdM n), .int .i64 (Cal.tdD n), .bool (Cal.isDayB n)]) ∧ Grown w w' := by
  obtain ⟨h0, h1⟩ := (Cal.isDay_iff n).1 hn
  have HN := Lib.hid hn
  clear hn
  have hst : Cal.ny (1600 + n / 366) ≤ n := by have := (Cal.ny_bd (1600 + n / 366) (by omega)).2; omega
  go_enter Tryd.func22, Tryd.ntmps22
  go_wp2_with (first | (go_at_call 19; refine (isday_ref_yes _ _ (by omega) (by omega)).mono ?_; rintro e w' ⟨rfl, rfl⟩))
  go_loop [6] (fun i => ∃ y : Int, 1600 ≤ y ∧ i = .int .i64 y ∧ Cal.ny y ≤ n) (fun i => (5000 - intOf i).toNat)
  case atStart => exact ⟨1600 + n / 366, by omega, rfl, hst⟩
  case round =>
    obtain ⟨y, y1, rfl, y2⟩ := hrel
    have y5 : y ≤ 4339 := by have := Cal.ny_bd y y1; omega
    clear hst
    by_cases hc : Cal.ny (y + 1) ≤ n
    · go_wp2_with (go_at_call 37; refine (ny_ref _ _ (by omega) (by omega)).mono ?_; rintro e w' ⟨rfl, rfl⟩)
      go_round
      case rel => exact ⟨y + 1, by omega, rfl, hc⟩
      case measure => simp [intOf]; omega
    · have hc' : n < Cal.ny (y + 1) := by omega
      have hyr := Cal.yr_uniq n y h0 y2 hc'
      have HT := Lib.hid (show Cal.tdY n = y ∧ Cal.tdM n = Cal.mo y (n - Cal.ny y) ∧ Cal.tdD n = n - Cal.ny y - Cal.cum y (Cal.mo y (n - Cal.ny y)) + 1 by simp [Cal.tdY, Cal.tdM, Cal.tdD, HN.out, ← hyr])
      have hs := Cal.ny_succ y y1
      have y4 : n < Cal.ny y + 365 + Cal.leap y := by omega
      have l1 := Cal.leap_01 y
      clear hyr hs
      go_wp2_with (go_at_call 37; refine (ny_ref _ _ (by omega) (by omega)).mono ?_; rintro e w' ⟨rfl, rfl⟩)
      go_loopw [7, 8] (fun r i wr => ∃ k : Int, 1 ≤ k ∧ k ≤ 12 ∧ i = .int .i64 k ∧ r = .int .i64 (n - Cal.ny y - Cal.cum y k) ∧ Cal.cum y k ≤ n - Cal.ny y ∧ Grown w wr) (fun _ i _ => (13 - intOf i).toNat)
      case atStart => exact ⟨1, by omega, by omega, rfl, by rw [Cal.cum_one]; go_num, by rw [Cal.cum_one]; omega, Grown.refl _⟩
      case round =>
        obtain ⟨k, hk1, hk2, rfl, rfl, hr, hg⟩ := hrel
        have cb := Cal.cum_bd y k
        have dk := Cal.dim_bd y k
        have hs := Cal.cum_succ y k hk1 hk2
        have h13 := Cal.cum_13 y
        by_cases hlt : Cal.dim y k ≤ n - Cal.ny y - Cal.cum y k
        · have hk3 : k < 12 := by
            by_cases e : k = 12
            · subst e; rw [show (12 : Int) + 1 = 13 from rfl, h13] at hs; omega
            · omega
          have HS := Lib.hid hs
          clear hs h13
          go_wp2_with fail
          refine (dim_ref _ _ _).mono ?_
          rintro e w2 ⟨rfl, hg2⟩
          go_wp2_with fail
          refine (dim_ref _ _ _).mono ?_
          rintro e w3 ⟨rfl, hg3⟩
          go_wp2_with fail
          go_roundw
          case rel => exact ⟨k + 1, by omega, by omega, rfl, by rw [HS.out]; go_num, by rw [HS.out]; omega, grown_trans hg (grown_trans hg2 hg3)⟩
          case measure => simp [intOf]; omega
        · have HM := Lib.hid (Cal.mo_uniq y (n - Cal.ny y) k hk1 hk2 hr (by omega))
          clear hs h13
          go_wp2_with (go_at_call 38; refine (dim_ref _ _ _).mono ?_; rintro e w2 ⟨rfl, hg2⟩)
          ((try simp only [Exit.inBlock, Exit.then]); refine bodyPost_ret (results_tmp4 rfl _ _ _) rfl ?_)
          obtain ⟨t1, t2, t3⟩ := HT.out
          exact ⟨ret_iiib t1.symm (by rw [t2, ← HM.out]) (by rw [t3, ← HM.out]) HN.out.symm, grown_trans hg hg2⟩

set_option maxHeartbeats 400000 in
theorem td_ref (n : Int) (w : World) :
    Calls Tryd.prog 22 #[.int .i64 n] w fun e w' => e = .returned (.tuple #[.int .i64 (Cal.tdY n), .int .i64 (Cal.tdM n), .int .i64 (Cal.tdD n), .bool (Cal.isDayB n)]) ∧ Grown w w' := by
  cases hn : Cal.isDayB n
  · have h : ¬ (0 ≤ n ∧ n < 1000000) := fun k => by rw [(Cal.isDay_iff n).2 k] at hn; cases hn
    obtain ⟨t1, t2, t3, _⟩ := Cal.td_no hn
    rw [t1, t2, t3]
    clear hn t1 t2 t3
    go_enter Tryd.func22, Tryd.ntmps22
    go_wp2_with (go_at_call 19; refine (isday_ref_no _ _ h).mono ?_; rintro e w' ⟨rfl, rfl⟩)
    ((try simp only [Exit.inBlock, Exit.then]); refine bodyPost_ret (results_tmp4 rfl _ _ _) rfl ?_)
    exact ⟨rfl, Grown.refl _⟩
  · have := td_ref_yes n w hn
    rwa [hn] at this

theorem notday {n : Int} (h : ¬ (0 ≤ n ∧ n < 1000000)) : Cal.isDayB n = false := by unfold Cal.isDayB; simpa using h

theorem td_civ_day (n : Int) (w : World) (hn : Cal.isDayB n = true) :
    Calls Tryd.prog 20 #[.int .i64 n] w fun e w' => e = .returned (.tuple #[.int .i64 (Cal.tdY n), .int .i64 (Cal.tdM n), .int .i64 (Cal.tdD n), .bool true]) ∧ w = w' := by
  have := td_civ n w; rwa [hn] at this
theorem td_civ_none (n : Int) (w : World) (hn : Cal.isDayB n = false) :
    Calls Tryd.prog 20 #[.int .i64 n] w fun e w' => e = .returned (.tuple #[.int .i64 0, .int .i64 0, .int .i64 0, .bool false]) ∧ w = w' := by
  have := td_civ n w; rw [hn] at this; obtain ⟨t1, t2, t3, _⟩ := Cal.td_no hn; rwa [t1, t2, t3] at this
theorem td_ref_day (n : Int) (w : World) (hn : Cal.isDayB n = true) :
    Calls Tryd.prog 22 #[.int .i64 n] w fun e w' => e = .returned (.tuple #[.int .i64 (Cal.tdY n), .int .i64 (Cal.tdM n), .int .i64 (Cal.tdD n), .bool true]) ∧ Grown w w' := by
  have := td_ref n w; rwa [hn] at this
theorem td_ref_none (n : Int) (w : World) (hn : Cal.isDayB n = false) :
    Calls Tryd.prog 22 #[.int .i64 n] w fun e w' => e = .returned (.tuple #[.int .i64 0, .int .i64 0, .int .i64 0, .bool false]) ∧ Grown w w' := by
  have := td_ref n w; rw [hn] at this; obtain ⟨t1, t2, t3, _⟩ := Cal.td_no hn; rwa [t1, t2, t3] at this
end Go.Proofs.YtpdafoinhpjklaaDoor
