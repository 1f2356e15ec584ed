/- Contract of the reference's FromDate. -/
import Derived.Test.YtpdafoinhpjklaaDoorWalk2
namespace Go.Proofs.YtpdafoinhpjklaaDoor
open Go.ChangeShapes Go.WideShapes Go.ChangeAt Go.RowKit

set_option maxHeartbeats 1000000 in
theorem fd_ref_no (y m d : Int) (w : World) (h : y < 1600 ∨ 9999 < y ∨ d < 1 ∨ Cal.dim y m < d) :
    Calls Tryd.prog 27 #[.int .i64 y, .int .i64 m, .int .i64 d] w fun e w' => e = .returned (.tuple #[.int .i64 0, .bool false]) ∧ Grown w w' := by
  by_cases h1 : y < 1600
  · clear h
    go_enter Tryd.func27, Tryd.ntmps27
    go_wp2
    go_ret2
    exact ⟨rfl, Grown.refl _⟩
  · have h1' : 1600 ≤ y := by omega
    by_cases h2 : 9999 < y
    · clear h
      go_enter Tryd.func27, Tryd.ntmps27
      go_wp2
      go_ret2
      exact ⟨rfl, Grown.refl _⟩
    · by_cases h3 : d < 1
      · clear h
        go_enter Tryd.func27, Tryd.ntmps27
        go_wp2
        go_ret2
        exact ⟨rfl, Grown.refl _⟩
      · have h4 : Cal.dim y m < d := by omega
        clear h
        go_enter Tryd.func27, Tryd.ntmps27
        go_wp2_with (go_at_call 38; refine (dim_ref _ _ _).mono ?_; rintro e w' ⟨rfl, hg⟩)
        go_ret2
        exact ⟨rfl, hg⟩

set_option maxHeartbeats 1000000 in
theorem fd_ref_mid (y m d : Int) (w : World) (h1 : 1600 ≤ y) (h2 : y ≤ 9999) (h3 : 1 ≤ d) (h4 : d ≤ Cal.dim y m) :
    Calls Tryd.prog 27 #[.int .i64 y, .int .i64 m, .int .i64 d] w fun e w' => e = .returned (.tuple #[.int .i64 (Cal.fdV y m d), .bool (Cal.fdB y m d)]) ∧ Grown w w' := by
  obtain ⟨m1, m2⟩ := Cal.mon_of h3 h4
  have db := Cal.dim_bd y m
  have nb := Cal.ny_bd y h1
  go_enter Tryd.func27, Tryd.ntmps27
  go_wp2_with (first | (go_at_call 38; refine (dim_ref _ _ _).mono ?_; rintro e w1 ⟨rfl, hg1⟩) | (go_at_call 37; refine (ny_ref _ _ (by omega) (by omega)).mono ?_; rintro e w' ⟨rfl, rfl⟩))
  go_loopw [8, 9] (fun n i wr => ∃ k : Int, 1 ≤ k ∧ k ≤ m ∧ i = .int .i64 k ∧ n = .int .i64 (Cal.ny y + Cal.cum y k) ∧ Grown w wr) (fun _ i _ => (m - intOf i).toNat)
  case atStart => exact ⟨1, by omega, by omega, rfl, by rw [Cal.cum_one]; go_num, hg1⟩
  case round =>
    obtain ⟨k, hk1, hk2, rfl, rfl, hg⟩ := hrel
    have cb := Cal.cum_bd y k
    have dk := Cal.dim_bd y k
    by_cases hlt : k < m
    · have HS := Lib.hid (Cal.cum_succ y k hk1 (by omega))
      go_wp2_with (go_at_call 38; refine (dim_ref _ _ _).mono ?_; rintro e w2 ⟨rfl, hg2⟩)
      go_roundw
      case rel => exact ⟨k + 1, by omega, by omega, rfl, by rw [HS.out]; go_num, grown_trans hg hg2⟩
      case measure => simp [intOf]; omega
    · obtain rfl : m = k := by omega
      by_cases hf : Cal.ny y + Cal.cum y m + d - 1 < 1000000
      · have HB := Lib.hid ((Cal.fdB_iff y m d).2 ⟨h1, h3, h4, by unfold Cal.num; omega⟩)
        go_wp2
        go_ret2
        exact ⟨ret_ib (by rw [Cal.fdV_yes HB.out]; unfold Cal.num; omega) HB.out.symm, hg⟩
      · have HB := Lib.hid (Cal.fd_no (y := y) (m := m) (d := d) (by unfold Cal.num; omega))
        go_wp2
        go_ret2
        exact ⟨ret_ib (by rw [Cal.fdV_no HB.out]) HB.out.symm, hg⟩

theorem fd_ref (y m d : Int) (w : World) :
    Calls Tryd.prog 27 #[.int .i64 y, .int .i64 m, .int .i64 d] w fun e w' => e = .returned (.tuple #[.int .i64 (Cal.fdV y m d), .bool (Cal.fdB y m d)]) ∧ Grown w w' := by
  by_cases h : y < 1600 ∨ 9999 < y ∨ d < 1 ∨ Cal.dim y m < d
  · have e : Cal.fdB y m d = false := by
      rcases h with h | h | h | h
      · exact Cal.fd_early h
      · exact Cal.fd_late (by omega)
      · exact Cal.fd_small h
      · exact Cal.fd_great h
    rw [Cal.fdV_no e, e]; exact fd_ref_no y m d w h
  · exact fd_ref_mid y m d w (by omega) (by omega) (by omega) (by omega)
end Go.Proofs.YtpdafoinhpjklaaDoor
