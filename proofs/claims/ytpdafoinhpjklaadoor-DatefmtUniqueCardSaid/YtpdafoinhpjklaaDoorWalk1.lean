/- Contracts of IsLeap and DaysInMonth, the program's and the reference's. -/
import Derived.Test.YtpdafoinhpjklaaDoorRows
import Derived.Test.YtpdafoinhpjklaaDoorCal
import Derived.WalkKit
import Derived.ProofKit
import Derived.OpenShut
import Derived.Lib.Hide
namespace Go.Proofs.YtpdafoinhpjklaaDoor
open Go.ChangeShapes Go.WideShapes Go.ChangeAt Go.RowKit

theorem ret_bool {a b : Bool} (h : a = b) : Ending.returned (.bool a) = .returned (.bool b) := by rw [h]
theorem ret_int {k : IntKind} {a b : Int} (h : a = b) : Ending.returned (.int k a) = .returned (.int k b) := by rw [h]
theorem grown_trans {a b c : World} (h : Grown a b) (k : Grown b c) : Grown a c :=
  ⟨World.keptBut_trans h.1 (World.keptBut_mono (fun _ f => f.elim) (World.keptBut_mono (fun _ f => f) k.1)), fun x => (k.2.1 x).trans (h.2.1 x), Nat.le_trans h.2.2 k.2.2⟩

set_option maxHeartbeats 400000 in
theorem leap_civ (y : Int) (w : World) :
    Calls Tryd.prog 43 #[.int .i64 y] w fun e w' => e = .returned (.bool (Cal.leapB y)) ∧ w = w' := by
  go_enter Tryd.func43, Tryd.ntmps43
  go_wp2
  all_goals
    go_ret
    exact ⟨ret_bool (by simp [Cal.leapB, *]), rfl⟩

set_option maxHeartbeats 400000 in
theorem leap_ref (y : Int) (w : World) :
    Calls Tryd.prog 50 #[.int .i64 y] w fun e w' => e = .returned (.bool (Cal.leapB y)) ∧ w = w' := by
  go_enter Tryd.func50, Tryd.ntmps50
  go_wp2
  all_goals
    go_ret
    exact ⟨ret_bool (by simp [Cal.leapB, *]), rfl⟩

set_option maxHeartbeats 1000000 in
theorem dim_civ (y m : Int) (w : World) :
    Calls Tryd.prog 34 #[.int .i64 y, .int .i64 m] w fun e w' => e = .returned (.int .i64 (Cal.dim y m)) ∧ w = w' := by
  have hl : Cal.leapB y = true ∨ Cal.leapB y = false := by cases Cal.leapB y <;> simp
  by_cases hm : 1 ≤ m ∧ m ≤ 12
  · have e : m = 1 ∨ m = 2 ∨ m = 3 ∨ m = 4 ∨ m = 5 ∨ m = 6 ∨ m = 7 ∨ m = 8 ∨ m = 9 ∨ m = 10 ∨ m = 11 ∨ m = 12 := by omega
    clear hm
    rcases e with rfl | rfl | rfl | rfl | rfl | rfl | rfl | rfl | rfl | rfl | rfl | rfl
    case inr.inl =>
      rcases hl with hl | hl
      all_goals
        go_enter Tryd.func34, Tryd.ntmps34
        go_wp2_with (go_at_call 43; refine (leap_civ _ _).mono ?_; rintro e w' ⟨rfl, rfl⟩)
        go_ret
        exact ⟨ret_int (by simp [Cal.dim, Cal.leap, hl]), rfl⟩
    all_goals
      clear hl
      go_enter Tryd.func34, Tryd.ntmps34
      go_wp2
      go_ret
      exact ⟨ret_int (by simp [Cal.dim]), rfl⟩
  · have k1 : (m == 1) = false := beq_eq_false_iff_ne.2 (by omega)
    have k2 : (m == 2) = false := beq_eq_false_iff_ne.2 (by omega)
    have k3 : (m == 3) = false := beq_eq_false_iff_ne.2 (by omega)
    have k4 : (m == 4) = false := beq_eq_false_iff_ne.2 (by omega)
    have k5 : (m == 5) = false := beq_eq_false_iff_ne.2 (by omega)
    have k6 : (m == 6) = false := beq_eq_false_iff_ne.2 (by omega)
    have k7 : (m == 7) = false := beq_eq_false_iff_ne.2 (by omega)
    have k8 : (m == 8) = false := beq_eq_false_iff_ne.2 (by omega)
    have k9 : (m == 9) = false := beq_eq_false_iff_ne.2 (by omega)
    have k10 : (m == 10) = false := beq_eq_false_iff_ne.2 (by omega)
    have k11 : (m == 11) = false := beq_eq_false_iff_ne.2 (by omega)
    have k12 : (m == 12) = false := beq_eq_false_iff_ne.2 (by omega)
    have hd : Cal.dim y m = 0 := Cal.dim_out y m (by omega)
    clear hl hm
    have HD := Lib.hid hd
    clear hd
    go_enter Tryd.func34, Tryd.ntmps34
    go_wp2
    go_ret
    exact ⟨ret_int HD.out.symm, rfl⟩

set_option maxHeartbeats 1000000 in
theorem dim_ref (y m : Int) (w : World) :
    Calls Tryd.prog 38 #[.int .i64 y, .int .i64 m] w fun e w' => e = .returned (.int .i64 (Cal.dim y m)) ∧ Grown w w' := by
  have hl : Cal.leapB y = true ∨ Cal.leapB y = false := by cases Cal.leapB y <;> simp
  by_cases hm : 1 ≤ m ∧ m ≤ 12
  · have e : m = 1 ∨ m = 2 ∨ m = 3 ∨ m = 4 ∨ m = 5 ∨ m = 6 ∨ m = 7 ∨ m = 8 ∨ m = 9 ∨ m = 10 ∨ m = 11 ∨ m = 12 := by omega
    clear hm
    rcases e with rfl | rfl | rfl | rfl | rfl | rfl | rfl | rfl | rfl | rfl | rfl | rfl
    case inr.inl =>
      rcases hl with hl | hl
      all_goals
        go_enter Tryd.func38, Tryd.ntmps38
        go_wp2_with (go_at_call 50; refine (leap_ref _ _).mono ?_; rintro e w' ⟨rfl, rfl⟩)
        go_ret
        exact ⟨ret_int (by simp [Cal.dim, Cal.leap, hl]), by repeat (first | exact Grown.refl _ | apply Grown.drew | apply Grown.alloc)⟩
    all_goals
      clear hl
      go_enter Tryd.func38, Tryd.ntmps38
      go_wp2
      go_ret
      exact ⟨ret_int (by simp [Cal.dim]), by repeat (first | exact Grown.refl _ | apply Grown.drew | apply Grown.alloc)⟩
  · have hd : Cal.dim y m = 0 := Cal.dim_out y m (by omega)
    clear hl
    have HD := Lib.hid hd
    clear hd
    by_cases h1 : m < 1
    · clear hm
      go_enter Tryd.func38, Tryd.ntmps38
      go_wp2
      go_ret
      exact ⟨ret_int HD.out.symm, by repeat (first | exact Grown.refl _ | apply Grown.drew | apply Grown.alloc)⟩
    · have h2 : 12 < m := by omega
      clear hm
      go_enter Tryd.func38, Tryd.ntmps38
      go_wp2
      go_ret
      exact ⟨ret_int HD.out.symm, by repeat (first | exact Grown.refl _ | apply Grown.drew | apply Grown.alloc)⟩
end Go.Proofs.YtpdafoinhpjklaaDoor
