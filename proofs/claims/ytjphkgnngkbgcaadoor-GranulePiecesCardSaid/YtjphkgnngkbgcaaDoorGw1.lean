/- Contracts of granule's small functions: Valid, unitOf, daysSinceMonday, weekOfYear; the reference's ValidGranularity and every. -/
import Derived.Test.YtjphkgnngkbgcaaDoorWalk3
import Derived.Test.YtjphkgnngkbgcaaDoorGran
namespace Go.Proofs.YtjphkgnngkbgcaaDoor
open Go.ChangeShapes Go.WideShapes Go.ChangeAt Go.RowKit

/-- the granularity as a value -/
abbrev gv (k s : Int) : Value := .agg #[.int .i64 k, .int .i64 s]

theorem gcell {W w1 : World} (hg : Grown W w1) : (∀ b o, b < W.heap.size → w1.cell? ⟨b, o, none⟩ = W.cell? ⟨b, o, none⟩) ∧ (∀ a, w1.frozen? a = W.frozen? a) :=
  ⟨fun _ _ h => World.keptBut.cell hg.1 h (fun f => f), hg.2.1⟩

set_option maxHeartbeats 2000000 in
theorem valid_gra (k s : Int) (w : World) :
    Calls Tryd.prog 14 #[gv k s] w fun e w' => e = .returned (.bool (Cal.validB k s)) ∧ Grown w w' := by
  by_cases h : k = 1 ∨ k = 2 ∨ k = 3 ∨ k = 4 ∨ k = 5
  · rcases h with rfl | rfl | rfl | rfl | rfl
    all_goals
      go_enter Tryd.func14, Tryd.ntmps14
      go_wp2
      all_goals
        go_ret
        exact ⟨ret_bool (by rw [Bool.eq_iff_iff]; simp [Cal.validB, *] <;> omega), (Grown.refl _).alloc _ _⟩
  · have k1 : (k == 1) = false := beq_eq_false_iff_ne.2 (by omega)
    have k2 : (k == 2) = false := beq_eq_false_iff_ne.2 (by omega)
    have k3 : (k == 3) = false := beq_eq_false_iff_ne.2 (by omega)
    have k4 : (k == 4) = false := beq_eq_false_iff_ne.2 (by omega)
    have k5 : (k == 5) = false := beq_eq_false_iff_ne.2 (by omega)
    have HD := Lib.hid (show Cal.validB k s = false by unfold Cal.validB; simp; omega)
    clear h
    go_enter Tryd.func14, Tryd.ntmps14
    go_wp2
    go_ret
    exact ⟨ret_bool HD.out.symm, (Grown.refl _).alloc _ _⟩
set_option maxHeartbeats 2000000 in
theorem valid_ref (k s : Int) (w : World) :
    Calls Tryd.prog 15 #[gv k s] w fun e w' => e = .returned (.bool (Cal.validB k s)) ∧ Grown w w' := by
  by_cases h : k = 1 ∨ k = 2 ∨ k = 3 ∨ k = 4 ∨ k = 5
  · rcases h with rfl | rfl | rfl | rfl | rfl
    all_goals
      go_enter Tryd.func15, Tryd.ntmps15
      go_wp2
      all_goals
        go_ret
        exact ⟨ret_bool (by rw [Bool.eq_iff_iff]; simp [Cal.validB, *] <;> omega), (Grown.refl _).alloc _ _⟩
  · have k1 : (k == 1) = false := beq_eq_false_iff_ne.2 (by omega)
    have k2 : (k == 2) = false := beq_eq_false_iff_ne.2 (by omega)
    have k3 : (k == 3) = false := beq_eq_false_iff_ne.2 (by omega)
    have k4 : (k == 4) = false := beq_eq_false_iff_ne.2 (by omega)
    have k5 : (k == 5) = false := beq_eq_false_iff_ne.2 (by omega)
    have HD := Lib.hid (show Cal.validB k s = false by unfold Cal.validB; simp; omega)
    clear h
    go_enter Tryd.func15, Tryd.ntmps15
    go_wp2
    go_ret
    exact ⟨ret_bool HD.out.symm, (Grown.refl _).alloc _ _⟩

theorem valid_gra_yes (k s : Int) (w : World) (h : Cal.validB k s = true) :
    Calls Tryd.prog 14 #[gv k s] w fun e w' => e = .returned (.bool true) ∧ Grown w w' := by
  have := valid_gra k s w; rwa [h] at this
theorem valid_gra_no (k s : Int) (w : World) (h : Cal.validB k s = false) :
    Calls Tryd.prog 14 #[gv k s] w fun e w' => e = .returned (.bool false) ∧ Grown w w' := by
  have := valid_gra k s w; rwa [h] at this
theorem valid_ref_yes (k s : Int) (w : World) (h : Cal.validB k s = true) :
    Calls Tryd.prog 15 #[gv k s] w fun e w' => e = .returned (.bool true) ∧ Grown w w' := by
  have := valid_ref k s w; rwa [h] at this
theorem valid_ref_no (k s : Int) (w : World) (h : Cal.validB k s = false) :
    Calls Tryd.prog 15 #[gv k s] w fun e w' => e = .returned (.bool false) ∧ Grown w w' := by
  have := valid_ref k s w; rwa [h] at this

theorem num_ny (y : Int) : Cal.num y 1 1 = Cal.ny y := by unfold Cal.num; rw [Cal.cum_one]; omega
theorem dim_one (y : Int) : Cal.dim y 1 = 31 := by simp [Cal.dim]
theorem fd_civ_ny (y : Int) (w : World) (h : 1600 ≤ y) (h2 : Cal.ny y < 1000000) :
    Calls Tryd.prog 36 #[.int .i64 y, .int .i64 1, .int .i64 1] w fun e w' => e = .returned (.tuple #[.int .i64 (Cal.ny y), .bool true]) ∧ w = w' := by
  have hb := Cal.ny_bd y h
  have e : Cal.fdB y 1 1 = true := (Cal.fdB_iff _ _ _).2 ⟨h, by omega, by rw [dim_one]; omega, by rw [num_ny]; exact h2⟩
  have := fd_civ y 1 1 w (by omega)
  rwa [e, Cal.fdV_yes e, num_ny] at this
theorem fd_civ_ny_no (y : Int) (w : World) (h : 1600 ≤ y) (hy : y ≤ 1000000000) (h2 : 1000000 ≤ Cal.ny y) :
    Calls Tryd.prog 36 #[.int .i64 y, .int .i64 1, .int .i64 1] w fun e w' => e = .returned (.tuple #[.int .i64 0, .bool false]) ∧ w = w' := by
  have e : Cal.fdB y 1 1 = false := Cal.fd_no (by rw [num_ny]; omega)
  have := fd_civ y 1 1 w (by omega)
  rwa [e, Cal.fdV_no e] at this
theorem wd_civ_day (n : Int) (w : World) (h0 : 0 ≤ n) (h1 : n < 1000000) :
    Calls Tryd.prog 45 #[.int .i64 n] w fun e w' => e = .returned (.int .i64 (Cal.dsm n + 1)) ∧ w = w' := by
  have := wd_civ n w
  rwa [show Cal.wd n = Cal.dsm n + 1 by unfold Cal.wd Cal.dsm; rw [if_pos ((Cal.isDay_iff n).2 ⟨h0, h1⟩)]] at this
theorem wd_ref_day (n : Int) (w : World) (h0 : 0 ≤ n) (h1 : n < 1000000) :
    Calls Tryd.prog 39 #[.int .i64 n] w fun e w' => e = .returned (.int .i64 (Cal.dsm n + 1)) ∧ w = w' := by
  have := wd_ref n w
  rwa [show Cal.wd n = Cal.dsm n + 1 by unfold Cal.wd Cal.dsm; rw [if_pos ((Cal.isDay_iff n).2 ⟨h0, h1⟩)]] at this
theorem dsm_bd (n : Int) : 0 ≤ Cal.dsm n ∧ Cal.dsm n ≤ 6 := by unfold Cal.dsm; omega

set_option maxHeartbeats 400000 in
theorem dsm_gra (n : Int) (w : World) (h0 : 0 ≤ n) (h1 : n < 1000000) :
    Calls Tryd.prog 37 #[.int .i64 n] w fun e w' => e = .returned (.int .i64 (Cal.dsm n)) ∧ w = w' := by
  have hb := dsm_bd n
  go_enter Tryd.func37, Tryd.ntmps37
  go_wp2_with (go_at_call 45; refine (wd_civ_day _ _ (by omega) (by omega)).mono ?_; rintro e w' ⟨rfl, rfl⟩)
  go_ret
  exact ⟨ret_int (by omega), rfl⟩

set_option maxHeartbeats 400000 in
theorem woy_gra (y n : Int) (w : World) (h : 1600 ≤ y) (h0 : Cal.ny y ≤ n) (h1 : n < 1000000) :
    Calls Tryd.prog 26 #[.int .i64 y, .int .i64 n] w fun e w' => e = .returned (.int .i64 ((Cal.dsm (Cal.ny y) + n - Cal.ny y) / 7)) ∧ w = w' := by
  have hn := Cal.ny_bd y h
  have hb := dsm_bd (Cal.ny y)
  have hp : 0 ≤ Cal.ny y := by omega
  have hq : 0 ≤ Cal.dsm (Cal.ny y) + n - Cal.ny y := by omega
  go_enter Tryd.func26, Tryd.ntmps26
  go_wp2_with fail
  refine (fd_civ_ny _ _ h (by omega)).mono ?_; rintro e w' ⟨rfl, rfl⟩
  go_wp2_with fail
  refine (dsm_gra _ _ (by omega) (by omega)).mono ?_; rintro e w' ⟨rfl, rfl⟩
  go_wp2_with fail
  go_ret
  exact ⟨rfl, rfl⟩

def evr (m f st : Int) : Int := (if f ≤ m then (m - f) / st + 1 else 0) + (if 0 < f then 1 else 0)
set_option maxHeartbeats 400000 in
theorem every_ref (m f st : Int) (w : World) (h0 : 0 ≤ m) (h1 : m ≤ 1000000) (h2 : 0 ≤ f) (h3 : f < st) (h4 : st = 3 ∨ st = 12) :
    Calls Tryd.prog 41 #[.int .i64 m, .int .i64 f, .int .i64 st] w fun e w' => e = .returned (.int .i64 (evr m f st)) ∧ w = w' := by
  have c : (f ≤ m ∧ 0 < f) ∨ (f ≤ m ∧ ¬ 0 < f) ∨ (¬ f ≤ m ∧ 0 < f) := by omega
  rcases h4 with rfl | rfl
  all_goals
    rcases c with ⟨a, b⟩ | ⟨a, b⟩ | ⟨a, b⟩
    all_goals
      go_enter Tryd.func41, Tryd.ntmps41
      go_wp2
      go_ret
      exact ⟨ret_int (by unfold evr; (repeat' split) <;> omega), rfl⟩

set_option maxHeartbeats 2000000 in
theorem unit_gra (k s : Int) (w : World) (hv : Cal.validB k s = true) (h1 : k ≠ 1) (h2 : k ≠ 2) :
    Calls Tryd.prog 27 #[gv k s] w fun e w' => e = .returned (.agg #[.int .i64 (Cal.uM k), .int .i64 (Cal.uD k s), .int .i64 (Cal.uL k s)]) ∧ Grown w w' := by
  have h := (Cal.valid_iff k s).1 hv
  have e : k = 3 ∧ s = 1 ∨ k = 3 ∧ s ≠ 1 ∧ 1 ≤ s ∧ s ≤ 28 ∨ k = 4 ∧ 1 ≤ s ∧ s ≤ 12 ∨ k = 5 ∧ 1 ≤ s ∧ s ≤ 12 := by omega
  clear h hv h1 h2
  rcases e with ⟨rfl, rfl⟩ | ⟨rfl, c, c1, c2⟩ | ⟨rfl, c1, c2⟩ | ⟨rfl, c1, c2⟩
  · go_enter Tryd.func27, Tryd.ntmps27
    go_wp2
    exact bodyPost_ret (v := .agg #[.int .i64 1, .int .i64 1, .int .i64 0]) (by simp [results, Tryd.results27, go_sem]) rfl ⟨rfl, (((Grown.refl _).alloc _ _).alloc _ _)⟩
  · have cb : (s == 1) = false := beq_eq_false_iff_ne.2 c
    have e3 : Cal.uL 3 s = 1 := by simp [Cal.uL, c]
    have HE := Lib.hid e3
    clear e3 c
    go_enter Tryd.func27, Tryd.ntmps27
    go_wp2
    exact bodyPost_ret (v := .agg #[.int .i64 1, .int .i64 s, .int .i64 1]) (by simp [results, Tryd.results27, go_sem]) rfl ⟨by rw [HE.out]; rfl, (((Grown.refl _).alloc _ _).alloc _ _)⟩
  · have cp : 0 ≤ 13 - s := by omega
    go_enter Tryd.func27, Tryd.ntmps27
    go_wp2
    exact bodyPost_ret (v := .agg #[.int .i64 3, .int .i64 1, .int .i64 ((13 - s) % 3)]) (by simp [results, Tryd.results27, go_sem]) rfl ⟨rfl, (((Grown.refl _).alloc _ _).alloc _ _)⟩
  · have cp : 0 ≤ 13 - s := by omega
    go_enter Tryd.func27, Tryd.ntmps27
    go_wp2
    exact bodyPost_ret (v := .agg #[.int .i64 12, .int .i64 1, .int .i64 ((13 - s) % 12)]) (by simp [results, Tryd.results27, go_sem]) rfl ⟨rfl, (((Grown.refl _).alloc _ _).alloc _ _)⟩
end Go.Proofs.YtjphkgnngkbgcaaDoor
