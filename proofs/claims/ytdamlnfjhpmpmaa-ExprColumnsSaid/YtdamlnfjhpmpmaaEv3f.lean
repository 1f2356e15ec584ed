/- The value of one expression, of the program. -/
import Derived.Test.YtdamlnfjhpmpmaaEv3
namespace Go.Proofs.Ytdamlnfjhpmpmaa
open Go.ChangeShapes Go.WideShapes Go.ChangeAt Go.RowKit

set_option maxHeartbeats 8000000 in
theorem evo_else (x : X) (pre row : List V) (vp vr : Value) (w : World) (hp : RdG w vp pre) (hr : RdG w vr row) (hop : ∀ v ∈ pre, okN v.n) (hb : lgl x pre.length = true) (h1 : x.op ≠ 1) (h2 : x.op ≠ 2) (h10 : x.op ≠ 10) (h11 : x.op ≠ 11) (h35 : ¬ (3 ≤ x.op ∧ x.op ≤ 5)) (h69 : ¬ (6 ≤ x.op ∧ x.op ≤ 9)) : Calls Try.prog 25 #[xv x, vp, vr] w fun e w' => e = .returned (vv (evO x pre row)) ∧ Ext w w' := by
  obtain ⟨ap, cp, rfl, lp1, lp2⟩ := hp.shape
  obtain ⟨ac, cc, rfl, lc1, lc2⟩ := hr.shape
  have hL := lgl_prg x pre.length
  have HP := Lib.hid hp
  have HR := Lib.hid hr
  have HO := Lib.hid hop
  clear hp hr hop
  unfold maxLen at lp2 lc2
  obtain ⟨op, a, b, col, ⟨k, n, s⟩⟩ := x
  simp only at h1 h2 h10 h11 h35 h69
  rw [hb] at hL
  have HL := Lib.hid hL
  clear hL
  have H := Lib.hid (show evO ⟨op, a, b, col, ⟨k, n, s⟩⟩ pre row = ⟨0, 0, []⟩ by unfold evO; rw [if_neg (by rw [hb]; decide), if_neg h1, if_neg h2, if_neg h35, if_neg h69, if_neg h10, if_neg h11]; rfl)
  have q1 : (op == 1) = false := by simpa using (show op ≠ 1 by omega)
  have q2 : (op == 2) = false := by simpa using (show op ≠ 2 by omega)
  have q3 : (op == 3) = false := by simpa using (show op ≠ 3 by omega)
  have q4 : (op == 4) = false := by simpa using (show op ≠ 4 by omega)
  have q5 : (op == 5) = false := by simpa using (show op ≠ 5 by omega)
  have q6 : (op == 6) = false := by simpa using (show op ≠ 6 by omega)
  have q7 : (op == 7) = false := by simpa using (show op ≠ 7 by omega)
  have q8 : (op == 8) = false := by simpa using (show op ≠ 8 by omega)
  have q9 : (op == 9) = false := by simpa using (show op ≠ 9 by omega)
  have q10 : (op == 10) = false := by simpa using (show op ≠ 10 by omega)
  have q11 : (op == 11) = false := by simpa using (show op ≠ 11 by omega)
  clear hb h1 h2 h35 h69 h10 h11
  go_enter Try.func25, Try.ntmps25
  go_wp2_with fail
  refine (HL.out _).mono ?_; rintro e w1 ⟨rfl, hg⟩
  have k0 := box2r _ _ _ _ hg 0 (.int .i64 0) rfl
  have k1 := box2r _ _ _ _ hg 1 (.int .i64 0) rfl
  have k2 := box2r _ _ _ _ hg 2 (sv []) rfl
  have kf0 := box2f _ _ _ _ hg 0
  have kf1 := box2f _ _ _ _ hg 1
  have kf2 := box2f _ _ _ _ hg 2
  obtain ⟨gc, gf⟩ := gcell hg
  have hsz : w.heap.size + 1 < w1.heap.size := by have := hg.2.2; rw [alsz, alsz] at this; omega
  have hE : Ext w w1 := (((Ext.refl _).alloc _ _).alloc _ _).trans (ext_of_grown hg)
  go_wp2_with fail
  exact bodyPost_ret (v := vv ⟨0, 0, []⟩) (by simp [results, Try.results25, go_sem, k0, k1, k2]) rfl ⟨ret_vv H.out.symm, by repeat (first | exact hE | exact Ext.refl _ | refine Ext.alloc ?_ _ _ | refine Ext.setNew ?_ _ _ (by simp; try omega) _)⟩
end Go.Proofs.Ytdamlnfjhpmpmaa
