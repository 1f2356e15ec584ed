/- Contracts of AddMonths, the program's and the reference's, and of the laws' check of fixed dates. -/
import Derived.Test.YtgojijlomlklnaaWalk3
namespace Go.Proofs.Ytgojijlomlklnaa
open Go.ChangeShapes Go.WideShapes Go.ChangeAt Go.RowKit

theorem td_civ_day (n : Int) (w : World) (hn : Cal.isDayB n = true) :
    Calls Try.prog 18 #[.int .i64 n] w fun e w' => e = .returned (.tuple #[.int .i64 (Cal.tdY n), .int .i64 (Cal.tdM n), .int .i64 (Cal.tdD n), .bool true]) ∧ w = w' := by
  have := td_civ n w; rwa [hn] at this
theorem td_civ_none (n : Int) (w : World) (hn : Cal.isDayB n = false) :
    Calls Try.prog 18 #[.int .i64 n] w fun e w' => e = .returned (.tuple #[.int .i64 0, .int .i64 0, .int .i64 0, .bool false]) ∧ w = w' := by
  have := td_civ n w; rw [hn] at this; obtain ⟨t1, t2, t3, _⟩ := Cal.td_no hn; rwa [t1, t2, t3] at this
theorem td_ref_day (n : Int) (w : World) (hn : Cal.isDayB n = true) :
    Calls Try.prog 19 #[.int .i64 n] w fun e w' => e = .returned (.tuple #[.int .i64 (Cal.tdY n), .int .i64 (Cal.tdM n), .int .i64 (Cal.tdD n), .bool true]) ∧ Grown w w' := by
  have := td_ref n w; rwa [hn] at this
theorem td_ref_none (n : Int) (w : World) (hn : Cal.isDayB n = false) :
    Calls Try.prog 19 #[.int .i64 n] w fun e w' => e = .returned (.tuple #[.int .i64 0, .int .i64 0, .int .i64 0, .bool false]) ∧ Grown w w' := by
  have := td_ref n w; rw [hn] at this; obtain ⟨t1, t2, t3, _⟩ := Cal.td_no hn; rwa [t1, t2, t3] at this

set_option maxHeartbeats 1000000 in
theorem am_civ_no (n k : Int) (w : World) (h : Cal.isDayB n = false ∨ k < -1000000 ∨ 1000000 < k ∨ Cal.amK n k < 0) :
    Calls Try.prog 22 #[.int .i64 n, .int .i64 k] w fun e w' => e = .returned (.tuple #[.int .i64 0, .bool false]) ∧ w = w' := by
  cases hd : Cal.isDayB n
  · clear h
    have HD := Lib.hid hd
    clear hd
    go_enter Try.func22, Try.ntmps22
    go_wp2_with (go_at_call 18; refine (td_civ_none _ _ HD.out).mono ?_; rintro e w' ⟨rfl, rfl⟩)
    go_ret2
    exact ⟨rfl, rfl⟩
  · have hs := Cal.td_spec n hd
    obtain ⟨s1, s2, s3, s4, s5, s6, _⟩ := hs
    have h' : k < -1000000 ∨ 1000000 < k ∨ Cal.amK n k < 0 := by rw [hd] at h; simpa using h
    clear h
    have HD := Lib.hid hd
    clear hd
    by_cases h1 : k < -1000000
    · clear h'
      go_enter Try.func22, Try.ntmps22
      go_wp2_with (go_at_call 18; refine (td_civ_day _ _ HD.out).mono ?_; rintro e w' ⟨rfl, rfl⟩)
      go_ret2
      exact ⟨rfl, rfl⟩
    · by_cases h2 : 1000000 < k
      · clear h'
        go_enter Try.func22, Try.ntmps22
        go_wp2_with (go_at_call 18; refine (td_civ_day _ _ HD.out).mono ?_; rintro e w' ⟨rfl, rfl⟩)
        go_ret2
        exact ⟨rfl, rfl⟩
      · have h3 : (Cal.tdY n - 1600) * 12 + Cal.tdM n - 1 + k < 0 := by unfold Cal.amK at h'; omega
        have h1' : -1000000 ≤ k := by omega
        have h2' : k ≤ 1000000 := by omega
        clear h'
        go_enter Try.func22, Try.ntmps22
        go_wp2_with (go_at_call 18; refine (td_civ_day _ _ HD.out).mono ?_; rintro e w' ⟨rfl, rfl⟩)
        go_ret2
        exact ⟨rfl, rfl⟩

theorem min_lo {a b : Int} (h : b < a) : min a b = b := by omega
theorem min_hi {a b : Int} (h : ¬ b < a) : min a b = a := by omega

set_option maxHeartbeats 1000000 in
theorem am_civ_mid (n k : Int) (w : World) (hd : Cal.isDayB n = true) (h1 : -1000000 ≤ k) (h2 : k ≤ 1000000) (hk : 0 ≤ Cal.amK n k) :
    Calls Try.prog 22 #[.int .i64 n, .int .i64 k] w fun e w' => e = .returned (.tuple #[.int .i64 (Cal.amV n k), .bool (Cal.amB n k)]) ∧ w = w' := by
  obtain ⟨s1, s2, s3, s4, s5, s6, _⟩ := Cal.td_spec n hd
  obtain ⟨r1, r2⟩ := Cal.am_in hd hk
  have h3 : 0 ≤ (Cal.tdY n - 1600) * 12 + Cal.tdM n - 1 + k := hk
  have HD := Lib.hid hd
  have hdb := Cal.dim_bd (1600 + ((Cal.tdY n - 1600) * 12 + Cal.tdM n - 1 + k) / 12) (((Cal.tdY n - 1600) * 12 + Cal.tdM n - 1 + k) % 12 + 1)
  clear hd hk
  rw [r1, r2]
  unfold Cal.amD Cal.amY Cal.amM Cal.amK
  clear r1 r2
  by_cases hm : Cal.dim (1600 + ((Cal.tdY n - 1600) * 12 + Cal.tdM n - 1 + k) / 12) (((Cal.tdY n - 1600) * 12 + Cal.tdM n - 1 + k) % 12 + 1) < Cal.tdD n
  · rw [min_lo hm]
    go_enter Try.func22, Try.ntmps22
    go_wp2_with (first | (go_at_call 18; refine (td_civ_day _ _ HD.out).mono ?_; rintro e w' ⟨rfl, rfl⟩) | (go_at_call 14; refine (dim_civ _ _ _).mono ?_; rintro e w' ⟨rfl, rfl⟩) | (go_at_call 16; refine (fd_civ _ _ _ _ (by omega)).mono ?_; rintro e w' ⟨rfl, rfl⟩))
    go_ret2
    exact ⟨rfl, rfl⟩
  · rw [min_hi hm]
    go_enter Try.func22, Try.ntmps22
    go_wp2_with (first | (go_at_call 18; refine (td_civ_day _ _ HD.out).mono ?_; rintro e w' ⟨rfl, rfl⟩) | (go_at_call 14; refine (dim_civ _ _ _).mono ?_; rintro e w' ⟨rfl, rfl⟩) | (go_at_call 16; refine (fd_civ _ _ _ _ (by omega)).mono ?_; rintro e w' ⟨rfl, rfl⟩))
    go_ret2
    exact ⟨rfl, rfl⟩

theorem am_civ (n k : Int) (w : World) :
    Calls Try.prog 22 #[.int .i64 n, .int .i64 k] w fun e w' => e = .returned (.tuple #[.int .i64 (Cal.amV n k), .bool (Cal.amB n k)]) ∧ w = w' := by
  by_cases h : Cal.isDayB n = false ∨ k < -1000000 ∨ 1000000 < k ∨ Cal.amK n k < 0
  · have e : Cal.amB n k = false := by
      rcases h with h | h | h | h
      · exact Cal.am_noday h
      · exact Cal.am_low (by omega)
      · exact Cal.am_high (by omega)
      · exact Cal.am_neg h
    rw [Cal.amV_no e, e]; exact am_civ_no n k w h
  · exact am_civ_mid n k w (by cases e : Cal.isDayB n; · exact absurd (Or.inl e) h
                               · rfl) (by omega) (by omega) (by omega)

set_option maxHeartbeats 1000000 in
theorem am_ref (n k : Int) (w : World) :
    Calls Try.prog 23 #[.int .i64 n, .int .i64 k] w fun e w' => e = .returned (.tuple #[.int .i64 (Cal.amV n k), .bool (Cal.amB n k)]) ∧ Grown w w' := by
  cases hd : Cal.isDayB n
  · rw [Cal.amV_no (Cal.am_noday hd), Cal.am_noday hd]
    have HD := Lib.hid hd
    clear hd
    go_enter Try.func23, Try.ntmps23
    go_wp2_with (go_at_call 19; refine (td_ref_none _ _ HD.out).mono ?_; rintro e w' ⟨rfl, hg⟩)
    go_ret2
    exact ⟨rfl, hg⟩
  · obtain ⟨s1, s2, s3, s4, s5, s6, _⟩ := Cal.td_spec n hd
    by_cases h1 : k < -40000
    · rw [Cal.amV_no (Cal.am_low h1), Cal.am_low h1]
      have HD := Lib.hid hd
      clear hd
      go_enter Try.func23, Try.ntmps23
      go_wp2_with (go_at_call 19; refine (td_ref_day _ _ HD.out).mono ?_; rintro e w' ⟨rfl, hg⟩)
      go_ret2
      exact ⟨rfl, hg⟩
    · have h1' : -40000 ≤ k := by omega
      by_cases h2 : 40000 < k
      · rw [Cal.amV_no (Cal.am_high h2), Cal.am_high h2]
        have HD := Lib.hid hd
        clear hd
        go_enter Try.func23, Try.ntmps23
        go_wp2_with (go_at_call 19; refine (td_ref_day _ _ HD.out).mono ?_; rintro e w' ⟨rfl, hg⟩)
        go_ret2
        exact ⟨rfl, hg⟩
      · have h2' : k ≤ 40000 := by omega
        by_cases h3 : 12 * Cal.tdY n + Cal.tdM n - 1 + k < 0
        · have e : Cal.amB n k = false := Cal.am_neg (by unfold Cal.amK; omega)
          rw [Cal.amV_no e, e]
          have HD := Lib.hid hd
          clear hd e
          go_enter Try.func23, Try.ntmps23
          go_wp2_with (go_at_call 19; refine (td_ref_day _ _ HD.out).mono ?_; rintro e w' ⟨rfl, hg⟩)
          go_ret2
          exact ⟨rfl, hg⟩
        · have h3' : 0 ≤ 12 * Cal.tdY n + Cal.tdM n - 1 + k := by omega
          have eY : (12 * Cal.tdY n + Cal.tdM n - 1 + k) / 12 = Cal.amY n k := by unfold Cal.amY Cal.amK; omega
          have eM : (12 * Cal.tdY n + Cal.tdM n - 1 + k) % 12 + 1 = Cal.amM n k := by unfold Cal.amM Cal.amK; omega
          have key : Cal.amB n k = Cal.fdB (Cal.amY n k) (Cal.amM n k) (Cal.amD n k) ∧ Cal.amV n k = Cal.fdV (Cal.amY n k) (Cal.amM n k) (Cal.amD n k) := by
            by_cases hk : 0 ≤ Cal.amK n k
            · exact Cal.am_in hd hk
            · have e : Cal.amB n k = false := Cal.am_neg (by omega)
              have e2 : Cal.fdB (Cal.amY n k) (Cal.amM n k) (Cal.amD n k) = false := Cal.fd_early (by unfold Cal.amY; omega)
              rw [Cal.amV_no e, e, e2, Cal.fdV_no e2]; exact ⟨rfl, rfl⟩
          rw [key.1, key.2]
          unfold Cal.amD
          rw [← eY, ← eM]
          have hdb := Cal.dim_bd ((12 * Cal.tdY n + Cal.tdM n - 1 + k) / 12) ((12 * Cal.tdY n + Cal.tdM n - 1 + k) % 12 + 1)
          have HD := Lib.hid hd
          clear hd key eY eM
          by_cases hm : Cal.dim ((12 * Cal.tdY n + Cal.tdM n - 1 + k) / 12) ((12 * Cal.tdY n + Cal.tdM n - 1 + k) % 12 + 1) < Cal.tdD n
          · rw [min_lo hm]
            go_enter Try.func23, Try.ntmps23
            go_wp2_with (first | (go_at_call 19; refine (td_ref_day _ _ HD.out).mono ?_; rintro e w1 ⟨rfl, hg1⟩) | (go_at_call 15; refine (dim_ref _ _ _).mono ?_; rintro e w2 ⟨rfl, hg2⟩) | (go_at_call 17; refine (fd_ref _ _ _ _).mono ?_; rintro e w3 ⟨rfl, hg3⟩))
            go_ret2
            exact ⟨rfl, grown_trans hg1 (grown_trans hg2 hg3)⟩
          · rw [min_hi hm]
            go_enter Try.func23, Try.ntmps23
            go_wp2_with (first | (go_at_call 19; refine (td_ref_day _ _ HD.out).mono ?_; rintro e w1 ⟨rfl, hg1⟩) | (go_at_call 15; refine (dim_ref _ _ _).mono ?_; rintro e w2 ⟨rfl, hg2⟩) | (go_at_call 17; refine (fd_ref _ _ _ _).mono ?_; rintro e w3 ⟨rfl, hg3⟩))
            go_ret2
            exact ⟨rfl, grown_trans hg1 (grown_trans hg2 hg3)⟩
end Go.Proofs.Ytgojijlomlklnaa
