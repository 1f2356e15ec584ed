/- The value of one expression, of the program. -/
import Derived.Test.YtdamlnfjhpmpmaaEv3
namespace Go.Proofs.Ytdamlnfjhpmpmaa
open Go.ChangeShapes Go.WideShapes Go.ChangeAt Go.RowKit

set_option maxHeartbeats 8000000 in
theorem evo_10 (x : X) (pre row : List V) (vp vr : Value) (w : World) (hp : RdG w vp pre) (hr : RdG w vr row) (hop : ∀ v ∈ pre, okN v.n) (hb : lgl x pre.length = true) (h1 : x.op ≠ 1) (h2 : x.op ≠ 2) (h10 : x.op = 10) : Calls Try.prog 25 #[xv x, vp, vr] w fun e w' => e = .returned (vv (evO x pre row)) ∧ Ext w w' := by
  obtain ⟨ap, cp, rfl, lp1, lp2⟩ := hp.shape
  obtain ⟨ac, cc, rfl, lc1, lc2⟩ := hr.shape
  have hL := lgl_prg x pre.length
  have HP := Lib.hid hp
  have HR := Lib.hid hr
  have HO := Lib.hid hop
  clear hp hr hop
  unfold maxLen at lp2 lc2
  obtain ⟨op, a, b, col, ⟨k, n, s⟩⟩ := x
  simp only at h1 h2 h10
  rw [hb] at hL
  have HL := Lib.hid hL
  clear hL
  subst h10
  have hx := lgA_lt (lgl_one (x := ⟨10, a, b, col, ⟨k, n, s⟩⟩) (show ari 10 = 1 by decide) ▸ hb)
  simp only at hx
  obtain ⟨j, rfl⟩ := nat_of hx.1
  have hj : j < pre.length := by omega
  have hH : evO ⟨10, j, b, col, ⟨k, n, s⟩⟩ pre row = booV (!truB pre[j]) := by unfold evO; rw [if_neg (by rw [hb]; decide), if_neg (by simp), if_neg (by simp), if_neg (by simp), if_neg (by simp), if_pos rfl, atV_at _ _ hj]
  have hT := tru_prg pre[j]
  obtain ⟨g, o, rfl, c0, c1, c2⟩ := rd_V HP.out j hj
  generalize pre[j] = v at *
  obtain ⟨vk, vn, vs⟩ := v
  simp only at c0 c1 c2
  have hjl : (j : Int) < (pre.length : Int) := by omega
  clear hb hx
  cases ht : truB ⟨vk, vn, vs⟩ with
  | true =>
    rw [ht] at hT hH
    have HT := Lib.hid hT
    have H := Lib.hid (hH.trans (show booV (!true) = ⟨3, 0, []⟩ from rfl))
    have HB := Lib.hid (boo_prg false)
    clear hT hH ht
    go_enter Try.func25, Try.ntmps25
    go_wp2_with fail
    refine (HL.out _).mono ?_; rintro e w1 ⟨rfl, hg⟩
    have k0 := box2r _ _ _ _ hg 0 (.int .i64 0) rfl
    have k1 := box2r _ _ _ _ hg 1 (.int .i64 0) rfl
    have k2 := box2r _ _ _ _ hg 2 (sv []) rfl
    have kf0 := box2f _ _ _ _ hg 0
    have kf1 := box2f _ _ _ _ hg 1
    have kf2 := box2f _ _ _ _ hg 2
    obtain ⟨gc, gf⟩ := gcell hg
    have hsz : w.heap.size + 1 < w1.heap.size := by have := hg.2.2; rw [alsz, alsz] at this; omega
    have hE : Ext w w1 := (((Ext.refl _).alloc _ _).alloc _ _).trans (ext_of_grown hg)
    have d0 := hE.keeps c0
    have d1 := hE.keeps c1
    have d2 := hE.keeps c2
    go_wp2_with fail
    refine (HT.out _).mono ?_; rintro e w2 ⟨rfl, hg2⟩
    go_wp2_with fail
    refine (HB.out _).mono ?_; rintro e w3 ⟨rfl, hE3⟩
    have qG : Ext w1 w3 := (ext_of_grown hg2).trans hE3
    have k0 := qG.keeps k0
    have k1 := qG.keeps k1
    have k2 := qG.keeps k2
    have hs3 : w.heap.size + 1 < w3.heap.size := Nat.lt_of_lt_of_le hsz qG.2.2
    have e0 := (qG.2.1 ⟨w.heap.size + 1, 0, none⟩ hsz).trans kf0
    have e1 := (qG.2.1 ⟨w.heap.size + 1, 1, none⟩ hsz).trans kf1
    have e2 := (qG.2.1 ⟨w.heap.size + 1, 2, none⟩ hsz).trans kf2
    go_wp2_with fail
    exact bodyPost_ret (v := vv ⟨3, 0, []⟩) (by simp [results, Try.results25, go_sem, k0, k1, k2, booV]) rfl ⟨ret_vv H.out.symm, by repeat (first | exact hE.trans qG | exact Ext.refl _ | refine Ext.alloc ?_ _ _ | refine Ext.setNew ?_ _ _ (by simp; try omega) _)⟩
  | false =>
    rw [ht] at hT hH
    have HT := Lib.hid hT
    have H := Lib.hid (hH.trans (show booV (!false) = ⟨3, 1, []⟩ from rfl))
    have HB := Lib.hid (boo_prg true)
    clear hT hH ht
    go_enter Try.func25, Try.ntmps25
    go_wp2_with fail
    refine (HL.out _).mono ?_; rintro e w1 ⟨rfl, hg⟩
    have k0 := box2r _ _ _ _ hg 0 (.int .i64 0) rfl
    have k1 := box2r _ _ _ _ hg 1 (.int .i64 0) rfl
    have k2 := box2r _ _ _ _ hg 2 (sv []) rfl
    have kf0 := box2f _ _ _ _ hg 0
    have kf1 := box2f _ _ _ _ hg 1
    have kf2 := box2f _ _ _ _ hg 2
    obtain ⟨gc, gf⟩ := gcell hg
    have hsz : w.heap.size + 1 < w1.heap.size := by have := hg.2.2; rw [alsz, alsz] at this; omega
    have hE : Ext w w1 := (((Ext.refl _).alloc _ _).alloc _ _).trans (ext_of_grown hg)
    have d0 := hE.keeps c0
    have d1 := hE.keeps c1
    have d2 := hE.keeps c2
    go_wp2_with fail
    refine (HT.out _).mono ?_; rintro e w2 ⟨rfl, hg2⟩
    go_wp2_with fail
    refine (HB.out _).mono ?_; rintro e w3 ⟨rfl, hE3⟩
    have qG : Ext w1 w3 := (ext_of_grown hg2).trans hE3
    have k0 := qG.keeps k0
    have k1 := qG.keeps k1
    have k2 := qG.keeps k2
    have hs3 : w.heap.size + 1 < w3.heap.size := Nat.lt_of_lt_of_le hsz qG.2.2
    have e0 := (qG.2.1 ⟨w.heap.size + 1, 0, none⟩ hsz).trans kf0
    have e1 := (qG.2.1 ⟨w.heap.size + 1, 1, none⟩ hsz).trans kf1
    have e2 := (qG.2.1 ⟨w.heap.size + 1, 2, none⟩ hsz).trans kf2
    go_wp2_with fail
    exact bodyPost_ret (v := vv ⟨3, 1, []⟩) (by simp [results, Try.results25, go_sem, k0, k1, k2, booV]) rfl ⟨ret_vv H.out.symm, by repeat (first | exact hE.trans qG | exact Ext.refl _ | refine Ext.alloc ?_ _ _ | refine Ext.setNew ?_ _ _ (by simp; try omega) _)⟩
set_option maxHeartbeats 8000000 in
theorem evo_11 (x : X) (pre row : List V) (vp vr : Value) (w : World) (hp : RdG w vp pre) (hr : RdG w vr row) (hop : ∀ v ∈ pre, okN v.n) (hb : lgl x pre.length = true) (h1 : x.op ≠ 1) (h2 : x.op ≠ 2) (h10 : x.op ≠ 10) (h11 : x.op = 11) : Calls Try.prog 25 #[xv x, vp, vr] w fun e w' => e = .returned (vv (evO x pre row)) ∧ Ext w w' := by
  obtain ⟨ap, cp, rfl, lp1, lp2⟩ := hp.shape
  obtain ⟨ac, cc, rfl, lc1, lc2⟩ := hr.shape
  have hL := lgl_prg x pre.length
  have HP := Lib.hid hp
  have HR := Lib.hid hr
  have HO := Lib.hid hop
  clear hp hr hop
  unfold maxLen at lp2 lc2
  obtain ⟨op, a, b, col, ⟨k, n, s⟩⟩ := x
  simp only at h1 h2 h10 h11
  rw [hb] at hL
  have HL := Lib.hid hL
  clear hL
  subst h11
  have hx := lgA_lt (lgl_one (x := ⟨11, a, b, col, ⟨k, n, s⟩⟩) (show ari 11 = 1 by decide) ▸ hb)
  simp only at hx
  obtain ⟨j, rfl⟩ := nat_of hx.1
  have hj : j < pre.length := by omega
  have hH : evO ⟨11, j, b, col, ⟨k, n, s⟩⟩ pre row = booV (decide (pre[j].k = 0)) := by unfold evO; rw [if_neg (by rw [hb]; decide), if_neg (by simp), if_neg (by simp), if_neg (by simp), if_neg (by simp), if_neg (by simp), if_pos rfl, atV_at _ _ hj]
  obtain ⟨g, o, rfl, c0, c1, c2⟩ := rd_V HP.out j hj
  generalize pre[j] = v at *
  obtain ⟨vk, vn, vs⟩ := v
  simp only at c0 c1 c2
  have hjl : (j : Int) < (pre.length : Int) := by omega
  clear hb hx
  by_cases hz : vk = 0
  · subst hz
    have H := Lib.hid (hH.trans (show booV (decide ((0 : Int) = 0)) = ⟨3, 1, []⟩ from rfl))
    have HB := Lib.hid (boo_prg true)
    clear hH
    go_enter Try.func25, Try.ntmps25
    go_wp2_with fail
    refine (HL.out _).mono ?_; rintro e w1 ⟨rfl, hg⟩
    have k0 := box2r _ _ _ _ hg 0 (.int .i64 0) rfl
    have k1 := box2r _ _ _ _ hg 1 (.int .i64 0) rfl
    have k2 := box2r _ _ _ _ hg 2 (sv []) rfl
    have kf0 := box2f _ _ _ _ hg 0
    have kf1 := box2f _ _ _ _ hg 1
    have kf2 := box2f _ _ _ _ hg 2
    obtain ⟨gc, gf⟩ := gcell hg
    have hsz : w.heap.size + 1 < w1.heap.size := by have := hg.2.2; rw [alsz, alsz] at this; omega
    have hE : Ext w w1 := (((Ext.refl _).alloc _ _).alloc _ _).trans (ext_of_grown hg)
    have d0 := hE.keeps c0
    go_wp2_with fail
    refine (HB.out _).mono ?_; rintro e w3 ⟨rfl, qG⟩
    have k0 := qG.keeps k0
    have k1 := qG.keeps k1
    have k2 := qG.keeps k2
    have hs3 : w.heap.size + 1 < w3.heap.size := Nat.lt_of_lt_of_le hsz qG.2.2
    have e0 := (qG.2.1 ⟨w.heap.size + 1, 0, none⟩ hsz).trans kf0
    have e1 := (qG.2.1 ⟨w.heap.size + 1, 1, none⟩ hsz).trans kf1
    have e2 := (qG.2.1 ⟨w.heap.size + 1, 2, none⟩ hsz).trans kf2
    go_wp2_with fail
    exact bodyPost_ret (v := vv ⟨3, 1, []⟩) (by simp [results, Try.results25, go_sem, k0, k1, k2, booV]) rfl ⟨ret_vv H.out.symm, by repeat (first | exact hE.trans qG | exact Ext.refl _ | refine Ext.alloc ?_ _ _ | refine Ext.setNew ?_ _ _ (by simp; try omega) _)⟩
  · have hz1 : (vk == 0) = false := by simpa using hz
    have H := Lib.hid (hH.trans (show booV (decide (vk = 0)) = ⟨3, 0, []⟩ by rw [decide_eq_false hz]; rfl))
    have HB := Lib.hid (boo_prg false)
    clear hH
    go_enter Try.func25, Try.ntmps25
    go_wp2_with fail
    refine (HL.out _).mono ?_; rintro e w1 ⟨rfl, hg⟩
    have k0 := box2r _ _ _ _ hg 0 (.int .i64 0) rfl
    have k1 := box2r _ _ _ _ hg 1 (.int .i64 0) rfl
    have k2 := box2r _ _ _ _ hg 2 (sv []) rfl
    have kf0 := box2f _ _ _ _ hg 0
    have kf1 := box2f _ _ _ _ hg 1
    have kf2 := box2f _ _ _ _ hg 2
    obtain ⟨gc, gf⟩ := gcell hg
    have hsz : w.heap.size + 1 < w1.heap.size := by have := hg.2.2; rw [alsz, alsz] at this; omega
    have hE : Ext w w1 := (((Ext.refl _).alloc _ _).alloc _ _).trans (ext_of_grown hg)
    have d0 := hE.keeps c0
    go_wp2_with fail
    refine (HB.out _).mono ?_; rintro e w3 ⟨rfl, qG⟩
    have k0 := qG.keeps k0
    have k1 := qG.keeps k1
    have k2 := qG.keeps k2
    have hs3 : w.heap.size + 1 < w3.heap.size := Nat.lt_of_lt_of_le hsz qG.2.2
    have e0 := (qG.2.1 ⟨w.heap.size + 1, 0, none⟩ hsz).trans kf0
    have e1 := (qG.2.1 ⟨w.heap.size + 1, 1, none⟩ hsz).trans kf1
    have e2 := (qG.2.1 ⟨w.heap.size + 1, 2, none⟩ hsz).trans kf2
    go_wp2_with fail
    exact bodyPost_ret (v := vv ⟨3, 0, []⟩) (by simp [results, Try.results25, go_sem, k0, k1, k2, booV]) rfl ⟨ret_vv H.out.symm, by repeat (first | exact hE.trans qG | exact Ext.refl _ | refine Ext.alloc ?_ _ _ | refine Ext.setNew ?_ _ _ (by simp; try omega) _)⟩
end Go.Proofs.Ytdamlnfjhpmpmaa
