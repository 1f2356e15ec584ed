/- The value of one expression, of the program. -/
import Derived.Test.YtdamlnfjhpmpmaaEw3
import Derived.Test.YtdamlnfjhpmpmaaEv2
namespace Go.Proofs.Ytdamlnfjhpmpmaa
open Go.ChangeShapes Go.WideShapes Go.ChangeAt Go.RowKit

theorem set3far {X : World} {b c o p q r : Nat} {u x y z : Value} (hne : b ≠ c) (h : X.cell? ⟨c, o, none⟩ = some u) : (((X.setCell ⟨b, p, none⟩ x).setCell ⟨b, q, none⟩ y).setCell ⟨b, r, none⟩ z).cell? ⟨c, o, none⟩ = some u := by
  rw [World.cell?_setCell_far _ _ _ _ hne, World.cell?_setCell_far _ _ _ _ hne, World.cell?_setCell_far _ _ _ _ hne]; exact h
theorem gE2 {N : Nat} {args : Array Value} {w : World} {R : Ending} (h : Calls Try.prog N args w fun e w' => e = R ∧ Grown w w') : Calls Try.prog N args w fun e w' => e = R ∧ Ext w w' := h.mono fun _ _ ⟨a, b⟩ => ⟨a, ext_of_grown b⟩
set_option maxHeartbeats 8000000 in
theorem evo_no (x : X) (pre row : List V) (vp vr : Value) (w : World) (hp : RdG w vp pre) (hr : RdG w vr row) (hop : ∀ v ∈ pre, okN v.n) (hb : lgl x pre.length = false) : Calls Try.prog 25 #[xv x, vp, vr] w fun e w' => e = .returned (vv (evO x pre row)) ∧ Ext w w' := by
  obtain ⟨ap, cp, rfl, lp1, lp2⟩ := hp.shape
  obtain ⟨ac, cc, rfl, lc1, lc2⟩ := hr.shape
  have hL := lgl_prg x pre.length
  have HP := Lib.hid hp
  have HR := Lib.hid hr
  have HO := Lib.hid hop
  clear hp hr hop
  unfold maxLen at lp2 lc2
  obtain ⟨op, a, b, col, ⟨k, n, s⟩⟩ := x
  have H := Lib.hid (show evO ⟨op, a, b, col, ⟨k, n, s⟩⟩ pre row = ⟨0, 0, []⟩ by unfold evO; rw [if_pos hb]; rfl)
  rw [hb] at hL
  have HL := Lib.hid hL
  clear hL hb
  go_enter Try.func25, Try.ntmps25
  go_wp2_with fail
  refine (HL.out _).mono ?_; rintro e w1 ⟨rfl, hg⟩
  have k0 := box2r _ _ _ _ hg 0 (.int .i64 0) rfl
  have k1 := box2r _ _ _ _ hg 1 (.int .i64 0) rfl
  have k2 := box2r _ _ _ _ hg 2 (sv []) rfl
  have kf0 := box2f _ _ _ _ hg 0
  have kf1 := box2f _ _ _ _ hg 1
  have kf2 := box2f _ _ _ _ hg 2
  obtain ⟨gc, gf⟩ := gcell hg
  have hsz : w.heap.size + 1 < w1.heap.size := by have := hg.2.2; rw [alsz, alsz] at this; omega
  have hE : Ext w w1 := (((Ext.refl _).alloc _ _).alloc _ _).trans (ext_of_grown hg)
  go_wp2_with fail
  exact bodyPost_ret (v := vv ⟨0, 0, []⟩) (by simp [results, Try.results25, go_sem, k0, k1, k2]) rfl ⟨ret_vv H.out.symm, by repeat (first | exact hE | exact Ext.refl _ | refine Ext.alloc ?_ _ _ | refine Ext.setNew ?_ _ _ (by simp; try omega) _)⟩
end Go.Proofs.Ytdamlnfjhpmpmaa
