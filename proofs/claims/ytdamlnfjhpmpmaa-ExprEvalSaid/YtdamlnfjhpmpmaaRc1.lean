/- The reference's legal operands, and the type of one expression. -/
import Derived.Test.YtdamlnfjhpmpmaaEw3
namespace Go.Proofs.Ytdamlnfjhpmpmaa
open Go.ChangeShapes Go.WideShapes Go.ChangeAt Go.RowKit

theorem lgl_a0 {x : X} {i : Int} (h : 1 ≤ ari x.op) (ha : x.a < 0 ∨ i ≤ x.a) : lgl x i = false := by
  have : isIx x.a i = false := (isIx_no _ _).2 ha
  unfold lgl; rw [this, decide_eq_false (show ¬ ari x.op < 1 by omega)]; rfl
theorem lgl_b0 {x : X} {i : Int} (h : 2 ≤ ari x.op) (hb : x.b < 0 ∨ i ≤ x.b) : lgl x i = false := by
  have : isIx x.b i = false := (isIx_no _ _).2 hb
  unfold lgl; rw [this, decide_eq_false (show ¬ ari x.op < 2 by omega)]; simp
theorem lgl_y1 {x : X} {i : Int} (h : ari x.op < 2) (ha : 0 ≤ x.a ∧ x.a < i) : lgl x i = true := by
  have : isIx x.a i = true := (isIx_iff _ _).2 ha
  unfold lgl; rw [this, decide_eq_true h]; simp
theorem lgl_y2 {x : X} {i : Int} (ha : 0 ≤ x.a ∧ x.a < i) (hb : 0 ≤ x.b ∧ x.b < i) : lgl x i = true := by
  have h1 : isIx x.a i = true := (isIx_iff _ _).2 ha
  have h2 : isIx x.b i = true := (isIx_iff _ _).2 hb
  unfold lgl; rw [h1, h2]; simp
theorem lgl_y0 {x : X} {i : Int} (h : ari x.op < 1) : lgl x i = true := by
  unfold lgl; rw [decide_eq_true h, decide_eq_true (show ari x.op < 2 by omega)]; rfl
set_option maxHeartbeats 4000000 in
theorem lgl_ref (l : List X) (k : Nat) (vl : Value) (w : World) (hl : RdG w vl l) (hk : k < l.length) : Calls Try.prog 37 #[vl, .int .i64 k] w fun e w' => e = .returned (.bool (lgl l[k] k)) ∧ w = w' := by
  obtain ⟨al, cl, rfl, l1, l2⟩ := hl.shape
  obtain ⟨g, o, rfl, c0, c1, c2, c3, c4, c5, c6⟩ := rd_X hl k hk
  have hA := ari_ref l[k].op
  generalize l[k] = x at *
  obtain ⟨op, a, b, col, ⟨kk, n, s⟩⟩ := x
  simp only at c0 c1 c2 hA
  have hi0 : (0 : Int) ≤ (k : Int) := by omega
  have hi1 : (k : Int) < (l.length : Int) := by omega
  clear c3 c4 c5 c6 hl
  have y0 := @lgl_y0 ⟨op, a, b, col, ⟨kk, n, s⟩⟩ k
  have y1 := @lgl_y1 ⟨op, a, b, col, ⟨kk, n, s⟩⟩ k
  have y2 := @lgl_y2 ⟨op, a, b, col, ⟨kk, n, s⟩⟩ k
  have a0 := @lgl_a0 ⟨op, a, b, col, ⟨kk, n, s⟩⟩ k
  have b0 := @lgl_b0 ⟨op, a, b, col, ⟨kk, n, s⟩⟩ k
  simp only at y0 y1 y2 a0 b0
  generalize ari op = r at *
  generalize lgl ⟨op, a, b, col, ⟨kk, n, s⟩⟩ k = res at *
  have HA := Lib.hid hA
  clear hA
  by_cases h1 : r < 1
  · have hd : decide (r < 1) = true := by simpa using h1
    have hd2 : decide (r < 2) = true := by simp; omega
    have H := Lib.hid (y0 h1)
    clear y0 y1 y2 a0 b0
    go_enter Try.func37, Try.ntmps37
    go_wp2_with fail
    refine (HA.out _).mono ?_; rintro e w1 ⟨rfl, rfl⟩
    go_wp2_with fail
    go_ret
    exact ⟨ret_bool H.out.symm, rfl⟩
  have hd : decide (r < 1) = false := by simpa using h1
  by_cases ha : a < 0
  · have hda : decide (0 ≤ a) = false := by simpa using ha
    have H := Lib.hid (a0 (by omega) (.inl ha))
    clear y0 y1 y2 a0 b0
    go_enter Try.func37, Try.ntmps37
    go_wp2_with fail
    refine (HA.out _).mono ?_; rintro e w1 ⟨rfl, rfl⟩
    go_wp2_with fail
    go_ret
    exact ⟨ret_bool H.out.symm, rfl⟩
  have hda : decide (0 ≤ a) = true := by simp; omega
  by_cases ha2 : a < (k : Int)
  · have hda2 : decide (a < (k : Int)) = true := by simpa using ha2
    by_cases h2 : r < 2
    · have hd2 : decide (r < 2) = true := by simpa using h2
      have H := Lib.hid (y1 h2 ⟨by omega, ha2⟩)
      clear y0 y1 y2 a0 b0
      go_enter Try.func37, Try.ntmps37
      go_wp2_with fail
      refine (HA.out _).mono ?_; rintro e w1 ⟨rfl, rfl⟩
      go_wp2_with fail
      go_ret
      exact ⟨ret_bool H.out.symm, rfl⟩
    have hd2 : decide (r < 2) = false := by simpa using h2
    by_cases hb : b < 0
    · have hdb : decide (0 ≤ b) = false := by simpa using hb
      have H := Lib.hid (b0 (by omega) (.inl hb))
      clear y0 y1 y2 a0 b0
      go_enter Try.func37, Try.ntmps37
      go_wp2_with fail
      refine (HA.out _).mono ?_; rintro e w1 ⟨rfl, rfl⟩
      go_wp2_with fail
      go_ret
      exact ⟨ret_bool H.out.symm, rfl⟩
    have hdb : decide (0 ≤ b) = true := by simp; omega
    by_cases hb2 : b < (k : Int)
    · have hdb2 : decide (b < (k : Int)) = true := by simpa using hb2
      have H := Lib.hid (y2 ⟨by omega, ha2⟩ ⟨by omega, hb2⟩)
      clear y0 y1 y2 a0 b0
      go_enter Try.func37, Try.ntmps37
      go_wp2_with fail
      refine (HA.out _).mono ?_; rintro e w1 ⟨rfl, rfl⟩
      go_wp2_with fail
      go_ret
      exact ⟨ret_bool H.out.symm, rfl⟩
    · have hdb2 : decide (b < (k : Int)) = false := by simpa using hb2
      have H := Lib.hid (b0 (by omega) (.inr (by omega)))
      clear y0 y1 y2 a0 b0
      go_enter Try.func37, Try.ntmps37
      go_wp2_with fail
      refine (HA.out _).mono ?_; rintro e w1 ⟨rfl, rfl⟩
      go_wp2_with fail
      go_ret
      exact ⟨ret_bool H.out.symm, rfl⟩
  · have hda2 : decide (a < (k : Int)) = false := by simpa using ha2
    have H := Lib.hid (a0 (by omega) (.inr (by omega)))
    clear y0 y1 y2 a0 b0
    go_enter Try.func37, Try.ntmps37
    go_wp2_with fail
    refine (HA.out _).mono ?_; rintro e w1 ⟨rfl, rfl⟩
    go_wp2_with fail
    go_ret
    exact ⟨ret_bool H.out.symm, rfl⟩
end Go.Proofs.Ytdamlnfjhpmpmaa
