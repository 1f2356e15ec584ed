/- Small functions of the program's and of the reference's evaluation. -/
import Derived.Test.YtdamlnfjhpmpmaaEw1
import Derived.Test.YtdamlnfjhpmpmaaNum7
namespace Go.Proofs.Ytdamlnfjhpmpmaa
open Go.ChangeShapes Go.WideShapes Go.ChangeAt Go.RowKit

def okN (n : Int) : Prop := -9223372036854775808 ≤ n ∧ n ≤ 9223372036854775807
theorem ret_vv {a b : V} (h : a = b) : Ending.returned (vv a) = .returned (vv b) := by rw [h]
theorem ret_nb {z : Int} {b c : Bool} (h : b = c) : Ending.returned (.tuple #[.int .i64 z, .bool b]) = .returned (.tuple #[.int .i64 z, .bool c]) := by rw [h]
theorem add_prg (a b : Int) (ha : okN a) (hb : okN b) (w : World) : Calls Try.prog 52 #[.int .i64 a, .int .i64 b] w fun e w' => e = .returned (.tuple #[.int .i64 (wrap64 (a + b)), .bool (fitB (a + b))]) ∧ w = w' := by
  have H := Lib.hid (fits_add a b ha hb)
  go_enter Try.func52, Try.ntmps52
  go_wp2
  go_ret2
  exact ⟨ret_nb H.out, rfl⟩
theorem sub_prg (a b : Int) (ha : okN a) (hb : okN b) (w : World) : Calls Try.prog 53 #[.int .i64 a, .int .i64 b] w fun e w' => e = .returned (.tuple #[.int .i64 (wrap64 (a - b)), .bool (fitB (a - b))]) ∧ w = w' := by
  have H := Lib.hid (fits_sub a b ha hb)
  go_enter Try.func53, Try.ntmps53
  go_wp2
  go_ret2
  exact ⟨ret_nb H.out, rfl⟩
set_option maxHeartbeats 1000000 in
theorem mul_prg (a b : Int) (ha : okN a) (hb : okN b) (w : World) : Calls Try.prog 54 #[.int .i64 a, .int .i64 b] w fun e w' => e = .returned (.tuple #[.int .i64 (wrap64 (a * b)), .bool (fitB (a * b))]) ∧ w = w' := by
  by_cases h0 : b = 0
  · subst h0
    have e1 : wrap64 (a * 0) = 0 := by rw [Int.mul_zero]; unfold wrap64; omega
    have e2 : fitB (a * 0) = true := by rw [Int.mul_zero]; decide
    rw [e1, e2]
    clear e1 e2
    go_enter Try.func54, Try.ntmps54
    go_wp2
    go_ret2
    exact ⟨rfl, rfl⟩
  · have h0' : (b == 0) = false := by simpa using h0
    have hf := fits_mul a b ha hb h0
    by_cases h1 : wrap64 ((wrap64 (a * b)).tdiv b) = a
    · by_cases h2 : a = -9223372036854775808
      · by_cases h3 : b = -1
        · have H := Lib.hid (show fitB (a * b) = false by
            cases h : fitB (a * b) with
            | false => rfl
            | true => exact absurd ⟨h2, h3⟩ (hf.2 h).2)
          have h2' : (a == -9223372036854775808) = true := by simpa using h2
          have h3' : (b == -1) = true := by simpa using h3
          clear hf ha hb h2 h3
          go_enter Try.func54, Try.ntmps54
          go_wp2
          all_goals
            go_ret2
            exact ⟨ret_nb (by rw [H.out]; try simp_all), rfl⟩
        · have H := Lib.hid (show fitB (a * b) = true from hf.1 ⟨h1, fun e => h3 e.2⟩)
          have h2' : (a == -9223372036854775808) = true := by simpa using h2
          have h3' : (b == -1) = false := by simpa using h3
          clear hf ha hb h2 h3
          go_enter Try.func54, Try.ntmps54
          go_wp2
          all_goals
            go_ret2
            exact ⟨ret_nb (by rw [H.out]; try simp_all), rfl⟩
      · have H := Lib.hid (show fitB (a * b) = true from hf.1 ⟨h1, fun e => h2 e.1⟩)
        have h2' : (a == -9223372036854775808) = false := by simpa using h2
        clear hf ha hb h2
        go_enter Try.func54, Try.ntmps54
        go_wp2
        all_goals
          go_ret2
          exact ⟨ret_nb (by rw [H.out]; try simp_all), rfl⟩
    · have H := Lib.hid (show fitB (a * b) = false by
        cases h : fitB (a * b) with
        | false => rfl
        | true => exact absurd (hf.2 h).1 h1)
      clear hf ha hb
      go_enter Try.func54, Try.ntmps54
      go_wp2
      all_goals
        go_ret2
        exact ⟨ret_nb (by rw [H.out]; try simp_all), rfl⟩
theorem tru_cases (k n : Int) (s : List UInt8) : (k ≠ 3 ∧ truB ⟨k, n, s⟩ = false) ∨ (k = 3 ∧ n ≠ 1 ∧ truB ⟨k, n, s⟩ = false) ∨ (k = 3 ∧ n = 1 ∧ truB ⟨k, n, s⟩ = true) := by
  simp [truB]; omega
theorem tru_prg (v : V) (w : World) : Calls Try.prog 42 #[vv v] w fun e w' => e = .returned (.bool (truB v)) ∧ Grown w w' := by
  obtain ⟨k, n, s⟩ := v
  rcases tru_cases k n s with ⟨h, e⟩ | ⟨h, h', e⟩ | ⟨h, h', e⟩
  all_goals
    have H := Lib.hid e
    clear e
    try subst h
    try subst h'
    go_enter Try.func42, Try.ntmps42
    go_wp2
    go_ret
    exact ⟨ret_bool (by rw [H.out]; try simp_all), (Grown.refl _).alloc _ _⟩
theorem tru_ref (v : V) (w : World) : Calls Try.prog 47 #[vv v] w fun e w' => e = .returned (.bool (truB v)) ∧ Grown w w' := by
  obtain ⟨k, n, s⟩ := v
  rcases tru_cases k n s with ⟨h, e⟩ | ⟨h, h', e⟩ | ⟨h, h', e⟩
  all_goals
    have H := Lib.hid e
    clear e
    try subst h
    try subst h'
    go_enter Try.func47, Try.ntmps47
    go_wp2
    go_ret
    exact ⟨ret_bool (by rw [H.out]; try simp_all), (Grown.refl _).alloc _ _⟩
theorem boo_prg (b : Bool) (w : World) : Calls Try.prog 41 #[.bool b] w fun e w' => e = .returned (vv (booV b)) ∧ Ext w w' := by
  cases b
  · go_enter Try.func41, Try.ntmps41
    go_wp2
    exact bodyPost_ret (v := vv ⟨3, 0, []⟩) (by simp [results, Try.results41, go_sem]) rfl ⟨rfl, by repeat (first | exact Ext.refl _ | refine Ext.alloc ?_ _ _ | refine Ext.setNew ?_ _ _ (by simp; try omega) _)⟩
  · go_enter Try.func41, Try.ntmps41
    go_wp2
    exact bodyPost_ret (v := vv ⟨3, 1, []⟩) (by simp [results, Try.results41, go_sem]) rfl ⟨rfl, by repeat (first | exact Ext.refl _ | refine Ext.alloc ?_ _ _ | refine Ext.setNew ?_ _ _ (by simp; try omega) _)⟩
theorem boo_ref (b : Bool) (w : World) : Calls Try.prog 45 #[.bool b] w fun e w' => e = .returned (vv (booV b)) ∧ Ext w w' := by
  cases b
  · go_enter Try.func45, Try.ntmps45
    go_wp2
    exact bodyPost_ret (v := vv ⟨3, 0, []⟩) (by simp [results, Try.results45, go_sem]) rfl ⟨rfl, by repeat (first | exact Ext.refl _ | refine Ext.alloc ?_ _ _ | refine Ext.setNew ?_ _ _ (by simp; try omega) _)⟩
  · go_enter Try.func45, Try.ntmps45
    go_wp2
    exact bodyPost_ret (v := vv ⟨3, 1, []⟩) (by simp [results, Try.results45, go_sem]) rfl ⟨rfl, by repeat (first | exact Ext.refl _ | refine Ext.alloc ?_ _ _ | refine Ext.setNew ?_ _ _ (by simp; try omega) _)⟩
end Go.Proofs.Ytdamlnfjhpmpmaa
