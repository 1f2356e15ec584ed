/- The value of one expression, of the program. -/
import Derived.Test.YtdamlnfjhpmpmaaEv3
namespace Go.Proofs.Ytdamlnfjhpmpmaa
open Go.ChangeShapes Go.WideShapes Go.ChangeAt Go.RowKit

set_option maxHeartbeats 8000000 in
theorem evo_2 (x : X) (pre row : List V) (vp vr : Value) (w : World) (hp : RdG w vp pre) (hr : RdG w vr row) (hop : ∀ v ∈ pre, okN v.n) (hb : lgl x pre.length = true) (h1 : x.op ≠ 1) (h2 : x.op = 2) : Calls Try.prog 25 #[xv x, vp, vr] w fun e w' => e = .returned (vv (evO x pre row)) ∧ Ext w w' := by
  obtain ⟨ap, cp, rfl, lp1, lp2⟩ := hp.shape
  obtain ⟨ac, cc, rfl, lc1, lc2⟩ := hr.shape
  have hL := lgl_prg x pre.length
  have HP := Lib.hid hp
  have HR := Lib.hid hr
  have HO := Lib.hid hop
  clear hp hr hop
  unfold maxLen at lp2 lc2
  obtain ⟨op, a, b, col, ⟨k, n, s⟩⟩ := x
  simp only at h1 h2
  rw [hb] at hL
  have HL := Lib.hid hL
  clear hL
  subst h2
  have hI := isx_prg col row.length
  cases hi : isIx col row.length with
  | false =>
    have H := Lib.hid (show evO ⟨2, a, b, col, ⟨k, n, s⟩⟩ pre row = ⟨0, 0, []⟩ by unfold evO; rw [if_neg (by rw [hb]; decide), if_neg (by simp), if_pos rfl, if_neg (by rw [hi]; decide)]; rfl)
    rw [hi] at hI
    have HI := Lib.hid hI
    clear hb hI hi h1
    go_enter Try.func25, Try.ntmps25
    go_wp2_with fail
    refine (HL.out _).mono ?_; rintro e w1 ⟨rfl, hg⟩
    have k0 := box2r _ _ _ _ hg 0 (.int .i64 0) rfl
    have k1 := box2r _ _ _ _ hg 1 (.int .i64 0) rfl
    have k2 := box2r _ _ _ _ hg 2 (sv []) rfl
    have kf0 := box2f _ _ _ _ hg 0
    have kf1 := box2f _ _ _ _ hg 1
    have kf2 := box2f _ _ _ _ hg 2
    obtain ⟨gc, gf⟩ := gcell hg
    have hsz : w.heap.size + 1 < w1.heap.size := by have := hg.2.2; rw [alsz, alsz] at this; omega
    have hE : Ext w w1 := (((Ext.refl _).alloc _ _).alloc _ _).trans (ext_of_grown hg)
    go_wp2_with fail
    refine (HI.out _).mono ?_; rintro e w2 ⟨rfl, rfl⟩
    go_wp2_with fail
    exact bodyPost_ret (v := vv ⟨0, 0, []⟩) (by simp [results, Try.results25, go_sem, k0, k1, k2]) rfl ⟨ret_vv H.out.symm, by repeat (first | exact hE | exact Ext.refl _ | refine Ext.alloc ?_ _ _ | refine Ext.setNew ?_ _ _ (by simp; try omega) _)⟩
  | true =>
    have hx := (isIx_iff _ _).1 hi
    obtain ⟨j, rfl⟩ := nat_of hx.1
    have hj : j < row.length := by omega
    have hH : evO ⟨2, a, b, j, ⟨k, n, s⟩⟩ pre row = row[j] := by unfold evO; rw [if_neg (by rw [hb]; decide), if_neg (by simp), if_pos rfl, if_pos hi, atV_at _ _ hj]
    rw [hi] at hI
    have HI := Lib.hid hI
    obtain ⟨g, o, rfl, c0, c1, c2⟩ := rd_V HR.out j hj
    generalize row[j] = v at *
    obtain ⟨vk, vn, vs⟩ := v
    simp only at c0 c1 c2
    have H := Lib.hid hH
    have hjl : (j : Int) < (row.length : Int) := by omega
    clear hb hI hi h1 hx hH
    go_enter Try.func25, Try.ntmps25
    go_wp2_with fail
    refine (HL.out _).mono ?_; rintro e w1 ⟨rfl, hg⟩
    have k0 := box2r _ _ _ _ hg 0 (.int .i64 0) rfl
    have k1 := box2r _ _ _ _ hg 1 (.int .i64 0) rfl
    have k2 := box2r _ _ _ _ hg 2 (sv []) rfl
    have kf0 := box2f _ _ _ _ hg 0
    have kf1 := box2f _ _ _ _ hg 1
    have kf2 := box2f _ _ _ _ hg 2
    obtain ⟨gc, gf⟩ := gcell hg
    have hsz : w.heap.size + 1 < w1.heap.size := by have := hg.2.2; rw [alsz, alsz] at this; omega
    have hE : Ext w w1 := (((Ext.refl _).alloc _ _).alloc _ _).trans (ext_of_grown hg)
    have d0 := hE.keeps c0
    have d1 := hE.keeps c1
    have d2 := hE.keeps c2
    go_wp2_with fail
    refine (HI.out _).mono ?_; rintro e w2 ⟨rfl, rfl⟩
    go_wp2_with fail
    exact bodyPost_ret (v := vv ⟨vk, vn, vs⟩) (by simp [results, Try.results25, go_sem, k0, k1, k2]) rfl ⟨ret_vv H.out.symm, by repeat (first | exact hE | exact Ext.refl _ | refine Ext.alloc ?_ _ _ | refine Ext.setNew ?_ _ _ (by simp; try omega) _)⟩
end Go.Proofs.Ytdamlnfjhpmpmaa
