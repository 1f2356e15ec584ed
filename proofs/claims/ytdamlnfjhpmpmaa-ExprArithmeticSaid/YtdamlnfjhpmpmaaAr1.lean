/- ExprArithmetic in plain values. -/
import Derived.Test.YtdamlnfjhpmpmaaLx0
import Derived.Test.YtdamlnfjhpmpmaaRe1
namespace Go.Proofs.Ytdamlnfjhpmpmaa
open Go.ChangeShapes Go.WideShapes Go.ChangeAt Go.RowKit

def arL : List X := [⟨2, 0, 0, 0, nul⟩, ⟨2, 0, 0, 1, nul⟩, ⟨3, 0, 1, 0, nul⟩, ⟨4, 2, 1, 0, nul⟩, ⟨5, 0, 1, 0, nul⟩, ⟨7, 0, 1, 0, nul⟩, ⟨6, 0, 1, 0, nul⟩]
def arR (x y : Int) : List V := [⟨1, x, []⟩, ⟨1, y, []⟩]
theorem arL_ok : OkX arL := by intro x hx; simp [arL, nul] at hx; rcases hx with rfl | rfl | rfl | rfl | rfl | rfl | rfl <;> (unfold okN; simp)
theorem arR_ok (x y : Int) (hx : okN x) (hy : okN y) : OkR (arR x y) := by intro v hv; simp [arR] at hv; rcases hv with rfl | rfl <;> assumption
def EvC (x y : Int) (k : Int) (v : V) : Prop := ∀ (w : World) (vl vr : Value), RdG w vl arL → RdG w vr (arR x y) → Calls Try.prog 15 #[vl, .int .i64 k, vr] w fun e w' => e = .returned (vv v) ∧ Ext w w'
theorem evC_of (x y : Int) (hx : okN x) (hy : okN y) (k : Int) : EvC x y k (evlV arL k (arR x y)) := fun w vl vr h1 h2 => eval_prg arL k (arR x y) vl vr w h1 h2 (by decide) arL_ok (arR_ok x y hx hy)
theorem ar2 (x y : Int) : evlV arL 2 (arR x y) = numV (x + y) := by rfl
theorem ar3 (x y : Int) : evlV arL 3 (arR x y) = calV 4 (numV (x + y)) ⟨1, y, []⟩ := by rfl
theorem ar4 (x y : Int) : evlV arL 4 (arR x y) = numV (x * y) := by rfl
theorem ar5 (x y : Int) : evlV arL 5 (arR x y) = booV (leB ⟨1, x, []⟩ ⟨1, y, []⟩) := by rfl
theorem ar6 (x y : Int) : evlV arL 6 (arR x y) = booV (eqB ⟨1, x, []⟩ ⟨1, y, []⟩) := by rfl
theorem leB_num (x y : Int) : leB ⟨1, x, []⟩ ⟨1, y, []⟩ = decide (x < y) := by
  unfold leB
  have h := cv_less ⟨1, x, []⟩ ⟨1, y, []⟩
  have hv := cv_vals ⟨1, x, []⟩ ⟨1, y, []⟩
  have hb : Lib.compareBytes ([] : List UInt8) [] = 0 := by rfl
  apply decide_eq_decide.2
  constructor
  · rintro ⟨_, _, h3⟩
    have : cmpV ⟨1, x, []⟩ ⟨1, y, []⟩ = -1 := by omega
    rcases h.1 this with h4 | ⟨_, h4 | ⟨_, h4⟩⟩
    · omega
    · exact h4
    · rw [show Lib.compareBytes ([] : List UInt8) [] = 0 from hb] at h4; omega
  · intro h3
    have h5 := h.2 (Or.inr ⟨rfl, Or.inl h3⟩)
    exact ⟨rfl, show (1 : Int) ≠ 0 by decide, by omega⟩
theorem eqB_num (x y : Int) : eqB ⟨1, x, []⟩ ⟨1, y, []⟩ = (x == y) := by
  unfold eqB
  rw [show (x == y) = decide (x = y) by rfl]
  apply decide_eq_decide.2
  rw [cv_zero]
  constructor
  · rintro ⟨_, h⟩; exact congrArg V.n h
  · rintro rfl; exact ⟨show (1 : Int) ≠ 0 by decide, rfl⟩
def oneI (b : Bool) : Int := if b then 1 else 0
theorem oneI_eq (b : Bool) : (oneI b == 1) = b := by cases b <;> rfl
theorem ar5c (x y : Int) (hx : okN x) (hy : okN y) : EvC x y 5 ⟨3, oneI (decide (x < y)), []⟩ := by
  have := evC_of x y hx hy 5
  rw [ar5, leB_num] at this; exact this
theorem ar6c (x y : Int) (hx : okN x) (hy : okN y) : EvC x y 6 ⟨3, oneI (x == y), []⟩ := by
  have := evC_of x y hx hy 6
  rw [ar6, eqB_num] at this; exact this
theorem ar2y (x y : Int) (hx : okN x) (hy : okN y) (hf : fitB (x + y) = true) : EvC x y 2 ⟨1, wrap64 (x + y), []⟩ := by
  have := evC_of x y hx hy 2
  rw [ar2, num_fit _ hf] at this; exact this
theorem ar2n (x y : Int) (hx : okN x) (hy : okN y) (hf : fitB (x + y) = false) : EvC x y 2 ⟨0, 0, []⟩ := by
  have := evC_of x y hx hy 2
  rw [ar2, num_not _ hf] at this; exact this
theorem ar3y (x y : Int) (hx : okN x) (hy : okN y) (hf : fitB (x + y) = true) : EvC x y 3 ⟨1, x, []⟩ := by
  have := evC_of x y hx hy 3
  have e : calV 4 (numV (x + y)) ⟨1, y, []⟩ = ⟨1, x, []⟩ := by
    rw [num_fit _ hf, wrap_fit _ hf, cal_num, show resV 4 (x + y) y = x + y - y from rfl, show x + y - y = x by omega]
    unfold numV; rw [if_pos ((fitB_iff x).2 hx)]
  rw [ar3, e] at this; exact this
theorem ar3n (x y : Int) (hx : okN x) (hy : okN y) (hf : fitB (x + y) = false) : EvC x y 3 ⟨0, 0, []⟩ := by
  have := evC_of x y hx hy 3
  have e : calV 4 (numV (x + y)) ⟨1, y, []⟩ = ⟨0, 0, []⟩ := by
    rw [num_not _ hf]; rfl
  rw [ar3, e] at this; exact this
theorem ar4y (x y : Int) (hx : okN x) (hy : okN y) (hf : fitB (x * y) = true) : EvC x y 4 ⟨1, wrap64 (x * y), []⟩ := by
  have := evC_of x y hx hy 4
  rw [ar4, num_fit _ hf] at this; exact this
theorem num_s (z : Int) : ∃ k n, numV z = ⟨k, n, []⟩ := by
  unfold numV; split
  · exact ⟨1, z, rfl⟩
  · exact ⟨0, 0, rfl⟩
theorem ar4e (x y : Int) (hx : okN x) (hy : okN y) : ∃ k n, EvC x y 4 ⟨k, n, []⟩ := by
  obtain ⟨k, n, e⟩ := num_s (x * y)
  have := evC_of x y hx hy 4
  rw [ar4, e] at this
  exact ⟨k, n, this⟩
theorem small_mul (x y : Int) (h1 : -2147483648 ≤ x) (h2 : x < 2147483648) (h3 : -2147483648 ≤ y) (h4 : y < 2147483648) : fitB (x * y) = true := by
  rw [fitB_iff]
  have a1 := Int.natAbs_mul x y
  have a2 : x.natAbs * y.natAbs ≤ 2147483648 * 2147483648 := Nat.mul_le_mul (by omega) (by omega)
  omega
end Go.Proofs.Ytdamlnfjhpmpmaa
