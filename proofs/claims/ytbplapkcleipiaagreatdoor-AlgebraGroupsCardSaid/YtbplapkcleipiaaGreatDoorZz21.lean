/- The value of one expression, of the program. -/
import Derived.Test.YtbplapkcleipiaaGreatDoorZz11
import Derived.Test.YtbplapkcleipiaaGreatDoorZz20
namespace Go.Proofs.YtbplapkcleipiaaGreatDoor
open Go.ChangeShapes Go.WideShapes Go.ChangeAt Go.RowKit

theorem set3far {X : World} {b c o p q r : Nat} {u x y z : Value} (hne : b ≠ c) (h : X.cell? ⟨c, o, none⟩ = some u) : (((X.setCell ⟨b, p, none⟩ x).setCell ⟨b, q, none⟩ y).setCell ⟨b, r, none⟩ z).cell? ⟨c, o, none⟩ = some u := by
  rw [World.cell?_setCell_far _ _ _ _ hne, World.cell?_setCell_far _ _ _ _ hne, World.cell?_setCell_far _ _ _ _ hne]; exact h
theorem gE2 {N : Nat} {args : Array Value} {w : World} {R : Ending} (h : Calls Tryz.prog N args w fun e w' => e = R ∧ Grown w w') : Calls Tryz.prog N args w fun e w' => e = R ∧ Ext w w' := h.mono fun _ _ ⟨a, b⟩ => ⟨a, ext_of_grown b⟩
set_option maxHeartbeats 8000000 in
theorem evo_no (x : X) (pre row : List V) (vp vr : Value) (w : World) (hp : RdG w vp pre) (hr : RdG w vr row) (hop : ∀ v ∈ pre, okN v.n) (hb : lgl x pre.length = false) : Calls Tryz.prog 143 #[xv x, vp, vr] w fun e w' => e = .returned (vv (evO x pre row)) ∧ Ext w w' := by
  obtain ⟨ap, cp, rfl, lp1, lp2⟩ := hp.shape
  obtain ⟨ac, cc, rfl, lc1, lc2⟩ := hr.shape
  have hL := lgl_prg x pre.length
  have HP := Lib.hid hp
  have HR := Lib.hid hr
  have HO := Lib.hid hop
  clear hp hr hop
  unfold maxLen at lp2 lc2
  obtain ⟨op, a, b, col, ⟨k, n, s⟩⟩ := x
  have H := Lib.hid (show evO ⟨op, a, b, col, ⟨k, n, s⟩⟩ pre row = ⟨0, 0, []⟩ by unfold evO; rw [if_pos hb]; rfl)
  rw [hb] at hL
  have HL := Lib.hid hL
  clear hL hb
  go_enter Tryz.func143, Tryz.ntmps143
  go_wp2_with fail
  refine (HL.out _).mono ?_; rintro e w1 ⟨rfl, hg⟩
  have k0 := box2r _ _ _ _ hg 0 (.int .i64 0) rfl
  have k1 := box2r _ _ _ _ hg 1 (.int .i64 0) rfl
  have k2 := box2r _ _ _ _ hg 2 (sv []) rfl
  have kf0 := box2f _ _ _ _ hg 0
  have kf1 := box2f _ _ _ _ hg 1
  have kf2 := box2f _ _ _ _ hg 2
  obtain ⟨gc, gf⟩ := gcell hg
  have hsz : w.heap.size + 1 < w1.heap.size := by have := hg.2.2; rw [alsz, alsz] at this; omega
  have hE : Ext w w1 := (((Ext.refl _).alloc _ _).alloc _ _).trans (ext_of_grown hg)
  go_wp2_with fail
  exact bodyPost_ret (v := vv ⟨0, 0, []⟩) (by simp [results, Tryz.results143, go_sem, k0, k1, k2]) rfl ⟨ret_vv H.out.symm, by repeat (first | exact hE | exact Ext.refl _ | refine Ext.alloc ?_ _ _ | refine Ext.setNew ?_ _ _ (by simp; try omega) _)⟩
end Go.Proofs.YtbplapkcleipiaaGreatDoor
/- The value of one expression, of the program. -/
namespace Go.Proofs.YtbplapkcleipiaaGreatDoor
open Go.ChangeShapes Go.WideShapes Go.ChangeAt Go.RowKit

set_option maxHeartbeats 8000000 in
theorem evo_1 (x : X) (pre row : List V) (vp vr : Value) (w : World) (hp : RdG w vp pre) (hr : RdG w vr row) (hop : ∀ v ∈ pre, okN v.n) (hb : lgl x pre.length = true) (h1 : x.op = 1) : Calls Tryz.prog 143 #[xv x, vp, vr] w fun e w' => e = .returned (vv (evO x pre row)) ∧ Ext w w' := by
  obtain ⟨ap, cp, rfl, lp1, lp2⟩ := hp.shape
  obtain ⟨ac, cc, rfl, lc1, lc2⟩ := hr.shape
  have hL := lgl_prg x pre.length
  have HP := Lib.hid hp
  have HR := Lib.hid hr
  have HO := Lib.hid hop
  clear hp hr hop
  unfold maxLen at lp2 lc2
  obtain ⟨op, a, b, col, ⟨k, n, s⟩⟩ := x
  simp only at h1
  rw [hb] at hL
  have HL := Lib.hid hL
  clear hL
  subst h1
  have H := Lib.hid (show evO ⟨1, a, b, col, ⟨k, n, s⟩⟩ pre row = ⟨k, n, s⟩ by unfold evO; rw [if_neg (by rw [hb]; decide), if_pos rfl])
  clear hb
  go_enter Tryz.func143, Tryz.ntmps143
  go_wp2_with fail
  refine (HL.out _).mono ?_; rintro e w1 ⟨rfl, hg⟩
  have k0 := box2r _ _ _ _ hg 0 (.int .i64 0) rfl
  have k1 := box2r _ _ _ _ hg 1 (.int .i64 0) rfl
  have k2 := box2r _ _ _ _ hg 2 (sv []) rfl
  have kf0 := box2f _ _ _ _ hg 0
  have kf1 := box2f _ _ _ _ hg 1
  have kf2 := box2f _ _ _ _ hg 2
  obtain ⟨gc, gf⟩ := gcell hg
  have hsz : w.heap.size + 1 < w1.heap.size := by have := hg.2.2; rw [alsz, alsz] at this; omega
  have hE : Ext w w1 := (((Ext.refl _).alloc _ _).alloc _ _).trans (ext_of_grown hg)
  go_wp2_with fail
  exact bodyPost_ret (v := vv ⟨k, n, s⟩) (by simp [results, Tryz.results143, go_sem, k0, k1, k2]) rfl ⟨ret_vv H.out.symm, by repeat (first | exact hE | exact Ext.refl _ | refine Ext.alloc ?_ _ _ | refine Ext.setNew ?_ _ _ (by simp; try omega) _)⟩
end Go.Proofs.YtbplapkcleipiaaGreatDoor
/- The value of one expression, of the program. -/
namespace Go.Proofs.YtbplapkcleipiaaGreatDoor
open Go.ChangeShapes Go.WideShapes Go.ChangeAt Go.RowKit

set_option maxHeartbeats 8000000 in
theorem evo_10 (x : X) (pre row : List V) (vp vr : Value) (w : World) (hp : RdG w vp pre) (hr : RdG w vr row) (hop : ∀ v ∈ pre, okN v.n) (hb : lgl x pre.length = true) (h1 : x.op ≠ 1) (h2 : x.op ≠ 2) (h10 : x.op = 10) : Calls Tryz.prog 143 #[xv x, vp, vr] w fun e w' => e = .returned (vv (evO x pre row)) ∧ Ext w w' := by
  obtain ⟨ap, cp, rfl, lp1, lp2⟩ := hp.shape
  obtain ⟨ac, cc, rfl, lc1, lc2⟩ := hr.shape
  have hL := lgl_prg x pre.length
  have HP := Lib.hid hp
  have HR := Lib.hid hr
  have HO := Lib.hid hop
  clear hp hr hop
  unfold maxLen at lp2 lc2
  obtain ⟨op, a, b, col, ⟨k, n, s⟩⟩ := x
  simp only at h1 h2 h10
  rw [hb] at hL
  have HL := Lib.hid hL
  clear hL
  subst h10
  have hx := lgA_lt (lgl_one (x := ⟨10, a, b, col, ⟨k, n, s⟩⟩) (show ari 10 = 1 by decide) ▸ hb)
  simp only at hx
  obtain ⟨j, rfl⟩ := nat_of hx.1
  have hj : j < pre.length := by omega
  have hH : evO ⟨10, j, b, col, ⟨k, n, s⟩⟩ pre row = booV (!truB pre[j]) := by unfold evO; rw [if_neg (by rw [hb]; decide), if_neg (by simp), if_neg (by simp), if_neg (by simp), if_neg (by simp), if_pos rfl, atV_at _ _ hj]
  have hT := tru_prg pre[j]
  obtain ⟨g, o, rfl, c0, c1, c2⟩ := rd_V HP.out j hj
  generalize pre[j] = v at *
  obtain ⟨vk, vn, vs⟩ := v
  simp only at c0 c1 c2
  have hjl : (j : Int) < (pre.length : Int) := by omega
  clear hb hx
  cases ht : truB ⟨vk, vn, vs⟩ with
  | true =>
    rw [ht] at hT hH
    have HT := Lib.hid hT
    have H := Lib.hid (hH.trans (show booV (!true) = ⟨3, 0, []⟩ from rfl))
    have HB := Lib.hid (boo_prg false)
    clear hT hH ht
    go_enter Tryz.func143, Tryz.ntmps143
    go_wp2_with fail
    refine (HL.out _).mono ?_; rintro e w1 ⟨rfl, hg⟩
    have k0 := box2r _ _ _ _ hg 0 (.int .i64 0) rfl
    have k1 := box2r _ _ _ _ hg 1 (.int .i64 0) rfl
    have k2 := box2r _ _ _ _ hg 2 (sv []) rfl
    have kf0 := box2f _ _ _ _ hg 0
    have kf1 := box2f _ _ _ _ hg 1
    have kf2 := box2f _ _ _ _ hg 2
    obtain ⟨gc, gf⟩ := gcell hg
    have hsz : w.heap.size + 1 < w1.heap.size := by have := hg.2.2; rw [alsz, alsz] at this; omega
    have hE : Ext w w1 := (((Ext.refl _).alloc _ _).alloc _ _).trans (ext_of_grown hg)
    have d0 := hE.keeps c0
    have d1 := hE.keeps c1
    have d2 := hE.keeps c2
    go_wp2_with fail
    refine (HT.out _).mono ?_; rintro e w2 ⟨rfl, hg2⟩
    go_wp2_with fail
    refine (HB.out _).mono ?_; rintro e w3 ⟨rfl, hE3⟩
    have qG : Ext w1 w3 := (ext_of_grown hg2).trans hE3
    have k0 := qG.keeps k0
    have k1 := qG.keeps k1
    have k2 := qG.keeps k2
    have hs3 : w.heap.size + 1 < w3.heap.size := Nat.lt_of_lt_of_le hsz qG.2.2
    have e0 := (qG.2.1 ⟨w.heap.size + 1, 0, none⟩ hsz).trans kf0
    have e1 := (qG.2.1 ⟨w.heap.size + 1, 1, none⟩ hsz).trans kf1
    have e2 := (qG.2.1 ⟨w.heap.size + 1, 2, none⟩ hsz).trans kf2
    go_wp2_with fail
    exact bodyPost_ret (v := vv ⟨3, 0, []⟩) (by simp [results, Tryz.results143, go_sem, k0, k1, k2, booV]) rfl ⟨ret_vv H.out.symm, by repeat (first | exact hE.trans qG | exact Ext.refl _ | refine Ext.alloc ?_ _ _ | refine Ext.setNew ?_ _ _ (by simp; try omega) _)⟩
  | false =>
    rw [ht] at hT hH
    have HT := Lib.hid hT
    have H := Lib.hid (hH.trans (show booV (!false) = ⟨3, 1, []⟩ from rfl))
    have HB := Lib.hid (boo_prg true)
    clear hT hH ht
    go_enter Tryz.func143, Tryz.ntmps143
    go_wp2_with fail
    refine (HL.out _).mono ?_; rintro e w1 ⟨rfl, hg⟩
    have k0 := box2r _ _ _ _ hg 0 (.int .i64 0) rfl
    have k1 := box2r _ _ _ _ hg 1 (.int .i64 0) rfl
    have k2 := box2r _ _ _ _ hg 2 (sv []) rfl
    have kf0 := box2f _ _ _ _ hg 0
    have kf1 := box2f _ _ _ _ hg 1
    have kf2 := box2f _ _ _ _ hg 2
    obtain ⟨gc, gf⟩ := gcell hg
    have hsz : w.heap.size + 1 < w1.heap.size := by have := hg.2.2; rw [alsz, alsz] at this; omega
    have hE : Ext w w1 := (((Ext.refl _).alloc _ _).alloc _ _).trans (ext_of_grown hg)
    have d0 := hE.keeps c0
    have d1 := hE.keeps c1
    have d2 := hE.keeps c2
    go_wp2_with fail
    refine (HT.out _).mono ?_; rintro e w2 ⟨rfl, hg2⟩
    go_wp2_with fail
    refine (HB.out _).mono ?_; rintro e w3 ⟨rfl, hE3⟩
    have qG : Ext w1 w3 := (ext_of_grown hg2).trans hE3
    have k0 := qG.keeps k0
    have k1 := qG.keeps k1
    have k2 := qG.keeps k2
    have hs3 : w.heap.size + 1 < w3.heap.size := Nat.lt_of_lt_of_le hsz qG.2.2
    have e0 := (qG.2.1 ⟨w.heap.size + 1, 0, none⟩ hsz).trans kf0
    have e1 := (qG.2.1 ⟨w.heap.size + 1, 1, none⟩ hsz).trans kf1
    have e2 := (qG.2.1 ⟨w.heap.size + 1, 2, none⟩ hsz).trans kf2
    go_wp2_with fail
    exact bodyPost_ret (v := vv ⟨3, 1, []⟩) (by simp [results, Tryz.results143, go_sem, k0, k1, k2, booV]) rfl ⟨ret_vv H.out.symm, by repeat (first | exact hE.trans qG | exact Ext.refl _ | refine Ext.alloc ?_ _ _ | refine Ext.setNew ?_ _ _ (by simp; try omega) _)⟩
set_option maxHeartbeats 8000000 in
theorem evo_11 (x : X) (pre row : List V) (vp vr : Value) (w : World) (hp : RdG w vp pre) (hr : RdG w vr row) (hop : ∀ v ∈ pre, okN v.n) (hb : lgl x pre.length = true) (h1 : x.op ≠ 1) (h2 : x.op ≠ 2) (h10 : x.op ≠ 10) (h11 : x.op = 11) : Calls Tryz.prog 143 #[xv x, vp, vr] w fun e w' => e = .returned (vv (evO x pre row)) ∧ Ext w w' := by
  obtain ⟨ap, cp, rfl, lp1, lp2⟩ := hp.shape
  obtain ⟨ac, cc, rfl, lc1, lc2⟩ := hr.shape
  have hL := lgl_prg x pre.length
  have HP := Lib.hid hp
  have HR := Lib.hid hr
  have HO := Lib.hid hop
  clear hp hr hop
  unfold maxLen at lp2 lc2
  obtain ⟨op, a, b, col, ⟨k, n, s⟩⟩ := x
  simp only at h1 h2 h10 h11
  rw [hb] at hL
  have HL := Lib.hid hL
  clear hL
  subst h11
  have hx := lgA_lt (lgl_one (x := ⟨11, a, b, col, ⟨k, n, s⟩⟩) (show ari 11 = 1 by decide) ▸ hb)
  simp only at hx
  obtain ⟨j, rfl⟩ := nat_of hx.1
  have hj : j < pre.length := by omega
  have hH : evO ⟨11, j, b, col, ⟨k, n, s⟩⟩ pre row = booV (decide (pre[j].k = 0)) := by unfold evO; rw [if_neg (by rw [hb]; decide), if_neg (by simp), if_neg (by simp), if_neg (by simp), if_neg (by simp), if_neg (by simp), if_pos rfl, atV_at _ _ hj]
  obtain ⟨g, o, rfl, c0, c1, c2⟩ := rd_V HP.out j hj
  generalize pre[j] = v at *
  obtain ⟨vk, vn, vs⟩ := v
  simp only at c0 c1 c2
  have hjl : (j : Int) < (pre.length : Int) := by omega
  clear hb hx
  by_cases hz : vk = 0
  · subst hz
    have H := Lib.hid (hH.trans (show booV (decide ((0 : Int) = 0)) = ⟨3, 1, []⟩ from rfl))
    have HB := Lib.hid (boo_prg true)
    clear hH
    go_enter Tryz.func143, Tryz.ntmps143
    go_wp2_with fail
    refine (HL.out _).mono ?_; rintro e w1 ⟨rfl, hg⟩
    have k0 := box2r _ _ _ _ hg 0 (.int .i64 0) rfl
    have k1 := box2r _ _ _ _ hg 1 (.int .i64 0) rfl
    have k2 := box2r _ _ _ _ hg 2 (sv []) rfl
    have kf0 := box2f _ _ _ _ hg 0
    have kf1 := box2f _ _ _ _ hg 1
    have kf2 := box2f _ _ _ _ hg 2
    obtain ⟨gc, gf⟩ := gcell hg
    have hsz : w.heap.size + 1 < w1.heap.size := by have := hg.2.2; rw [alsz, alsz] at this; omega
    have hE : Ext w w1 := (((Ext.refl _).alloc _ _).alloc _ _).trans (ext_of_grown hg)
    have d0 := hE.keeps c0
    go_wp2_with fail
    refine (HB.out _).mono ?_; rintro e w3 ⟨rfl, qG⟩
    have k0 := qG.keeps k0
    have k1 := qG.keeps k1
    have k2 := qG.keeps k2
    have hs3 : w.heap.size + 1 < w3.heap.size := Nat.lt_of_lt_of_le hsz qG.2.2
    have e0 := (qG.2.1 ⟨w.heap.size + 1, 0, none⟩ hsz).trans kf0
    have e1 := (qG.2.1 ⟨w.heap.size + 1, 1, none⟩ hsz).trans kf1
    have e2 := (qG.2.1 ⟨w.heap.size + 1, 2, none⟩ hsz).trans kf2
    go_wp2_with fail
    exact bodyPost_ret (v := vv ⟨3, 1, []⟩) (by simp [results, Tryz.results143, go_sem, k0, k1, k2, booV]) rfl ⟨ret_vv H.out.symm, by repeat (first | exact hE.trans qG | exact Ext.refl _ | refine Ext.alloc ?_ _ _ | refine Ext.setNew ?_ _ _ (by simp; try omega) _)⟩
  · have hz1 : (vk == 0) = false := by simpa using hz
    have H := Lib.hid (hH.trans (show booV (decide (vk = 0)) = ⟨3, 0, []⟩ by rw [decide_eq_false hz]; rfl))
    have HB := Lib.hid (boo_prg false)
    clear hH
    go_enter Tryz.func143, Tryz.ntmps143
    go_wp2_with fail
    refine (HL.out _).mono ?_; rintro e w1 ⟨rfl, hg⟩
    have k0 := box2r _ _ _ _ hg 0 (.int .i64 0) rfl
    have k1 := box2r _ _ _ _ hg 1 (.int .i64 0) rfl
    have k2 := box2r _ _ _ _ hg 2 (sv []) rfl
    have kf0 := box2f _ _ _ _ hg 0
    have kf1 := box2f _ _ _ _ hg 1
    have kf2 := box2f _ _ _ _ hg 2
    obtain ⟨gc, gf⟩ := gcell hg
    have hsz : w.heap.size + 1 < w1.heap.size := by have := hg.2.2; rw [alsz, alsz] at this; omega
    have hE : Ext w w1 := (((Ext.refl _).alloc _ _).alloc _ _).trans (ext_of_grown hg)
    have d0 := hE.keeps c0
    go_wp2_with fail
    refine (HB.out _).mono ?_; rintro e w3 ⟨rfl, qG⟩
    have k0 := qG.keeps k0
    have k1 := qG.keeps k1
    have k2 := qG.keeps k2
    have hs3 : w.heap.size + 1 < w3.heap.size := Nat.lt_of_lt_of_le hsz qG.2.2
    have e0 := (qG.2.1 ⟨w.heap.size + 1, 0, none⟩ hsz).trans kf0
    have e1 := (qG.2.1 ⟨w.heap.size + 1, 1, none⟩ hsz).trans kf1
    have e2 := (qG.2.1 ⟨w.heap.size + 1, 2, none⟩ hsz).trans kf2
    go_wp2_with fail
    exact bodyPost_ret (v := vv ⟨3, 0, []⟩) (by simp [results, Tryz.results143, go_sem, k0, k1, k2, booV]) rfl ⟨ret_vv H.out.symm, by repeat (first | exact hE.trans qG | exact Ext.refl _ | refine Ext.alloc ?_ _ _ | refine Ext.setNew ?_ _ _ (by simp; try omega) _)⟩
end Go.Proofs.YtbplapkcleipiaaGreatDoor
/- The value of one expression, of the program. -/
namespace Go.Proofs.YtbplapkcleipiaaGreatDoor
open Go.ChangeShapes Go.WideShapes Go.ChangeAt Go.RowKit

set_option maxHeartbeats 8000000 in
theorem evo_35 (x : X) (pre row : List V) (vp vr : Value) (w : World) (hp : RdG w vp pre) (hr : RdG w vr row) (hop : ∀ v ∈ pre, okN v.n) (hb : lgl x pre.length = true) (h1 : x.op ≠ 1) (h2 : x.op ≠ 2) (h10 : x.op ≠ 10) (h11 : x.op ≠ 11) (h35 : 3 ≤ x.op ∧ x.op ≤ 5) : Calls Tryz.prog 143 #[xv x, vp, vr] w fun e w' => e = .returned (vv (evO x pre row)) ∧ Ext w w' := by
  obtain ⟨ap, cp, rfl, lp1, lp2⟩ := hp.shape
  obtain ⟨ac, cc, rfl, lc1, lc2⟩ := hr.shape
  have hL := lgl_prg x pre.length
  have HP := Lib.hid hp
  have HR := Lib.hid hr
  have HO := Lib.hid hop
  clear hp hr hop
  unfold maxLen at lp2 lc2
  obtain ⟨op, a, b, col, ⟨k, n, s⟩⟩ := x
  simp only at h1 h2 h10 h11 h35
  rw [hb] at hL
  have HL := Lib.hid hL
  clear hL
  have ha2 := show ari op = 2 by unfold ari; rw [if_neg (by omega), if_neg (by omega), if_pos (by omega)]
  have hlg := lgl_two (x := ⟨op, a, b, col, ⟨k, n, s⟩⟩) ha2 ▸ hb
  rw [Bool.and_eq_true] at hlg
  have hx := lgA_lt hlg.1
  have hy := lgB_lt hlg.2
  simp only at hx hy
  obtain ⟨j, rfl⟩ := nat_of hx.1
  obtain ⟨i, rfl⟩ := nat_of hy.1
  have hj : j < pre.length := by omega
  have hi : i < pre.length := by omega
  have hU := cal_prg op h35 pre[j] pre[i] (HO.out _ (List.getElem_mem hj)) (HO.out _ (List.getElem_mem hi))
  have hH : evO ⟨op, j, i, col, ⟨k, n, s⟩⟩ pre row = calV op pre[j] pre[i] := by unfold evO; rw [if_neg (by rw [hb]; decide), if_neg h1, if_neg h2, if_pos h35, atV_at _ _ hj, atV_at _ _ hi]
  generalize calV op pre[j] pre[i] = rr at *
  obtain ⟨rk, rn, rs⟩ := rr
  have HU := Lib.hid hU
  clear hU
  obtain ⟨g, o, rfl, c0, c1, c2⟩ := rd_V HP.out j hj
  obtain ⟨g2, o2, e2, c3, c4, c5⟩ := rd_V HP.out i hi
  simp only [Option.some.injEq, Addr.mk.injEq, and_true] at e2
  obtain ⟨rfl, rfl⟩ := e2
  generalize pre[j] = u at *
  generalize pre[i] = v at *
  obtain ⟨uk, un, us⟩ := u
  obtain ⟨vk, vn, vs⟩ := v
  simp only at c0 c1 c2 c3 c4 c5
  have H := Lib.hid hH
  have hjl : (j : Int) < (pre.length : Int) := by omega
  have hil : (i : Int) < (pre.length : Int) := by omega
  rcases (show op = 3 ∨ op = 4 ∨ op = 5 by omega) with rfl | rfl | rfl
  · clear hb ha2 hx hy hlg hH h1 h2 h10 h11 h35
    go_enter Tryz.func143, Tryz.ntmps143
    go_wp2_with fail
    refine (HL.out _).mono ?_; rintro e w1 ⟨rfl, hg⟩
    have k0 := box2r _ _ _ _ hg 0 (.int .i64 0) rfl
    have k1 := box2r _ _ _ _ hg 1 (.int .i64 0) rfl
    have k2 := box2r _ _ _ _ hg 2 (sv []) rfl
    have kf0 := box2f _ _ _ _ hg 0
    have kf1 := box2f _ _ _ _ hg 1
    have kf2 := box2f _ _ _ _ hg 2
    obtain ⟨gc, gf⟩ := gcell hg
    have hsz : w.heap.size + 1 < w1.heap.size := by have := hg.2.2; rw [alsz, alsz] at this; omega
    have hE : Ext w w1 := (((Ext.refl _).alloc _ _).alloc _ _).trans (ext_of_grown hg)
    have K0 := Lib.hid (box2 _ _ _ _ hg 0 (.int .i64 3) rfl)
    have K1 := Lib.hid (box2 _ _ _ _ hg 1 (.int .i64 j) rfl)
    have K2 := Lib.hid (box2 _ _ _ _ hg 2 (.int .i64 i) rfl)
    have n0 : w.heap.size + 1 ≠ w.heap.size := by omega
    have n1 : w.heap.size + 1 ≠ g := by have := World.block_lt_of_cell? _ _ c0; simp only at this; omega
    have D0 := Lib.hid (hE.keeps c0)
    have D1 := Lib.hid (hE.keeps c1)
    have D2 := Lib.hid (hE.keeps c2)
    have D3 := Lib.hid (hE.keeps c3)
    have D4 := Lib.hid (hE.keeps c4)
    have D5 := Lib.hid (hE.keeps c5)
    have Kk0 := Lib.hid k0
    have Kk1 := Lib.hid k1
    have Kk2 := Lib.hid k2
    clear c0 c1 c2 c3 c4 c5
    go_wp2_with fail
    clear gc gf hg k0 k1 k2
    go_region_held3 (fun w' => w'.cell? ⟨w.heap.size, 0, none⟩ = some (.int .i64 3) ∧ w'.cell? ⟨w.heap.size, 1, none⟩ = some (.int .i64 j) ∧ w'.cell? ⟨w.heap.size, 2, none⟩ = some (.int .i64 i) ∧ w'.cell? ⟨g, o + j * 3, none⟩ = some (.int .i64 uk) ∧ w'.cell? ⟨g, o + j * 3 + 1, none⟩ = some (.int .i64 un) ∧ w'.cell? ⟨g, o + j * 3 + 2, none⟩ = some (sv us) ∧ w'.cell? ⟨g, o + i * 3, none⟩ = some (.int .i64 vk) ∧ w'.cell? ⟨g, o + i * 3 + 1, none⟩ = some (.int .i64 vn) ∧ w'.cell? ⟨g, o + i * 3 + 2, none⟩ = some (sv vs)) (first | exact ⟨K0.out, K1.out, K2.out, D0.out, D1.out, D2.out, D3.out, D4.out, D5.out⟩ | exact ⟨f0, f1, f2, f3, f4, f5, f6, f7, f8⟩ | exact ⟨set3far n0 f0, set3far n0 f1, set3far n0 f2, set3far n1 f3, set3far n1 f4, set3far n1 f5, set3far n1 f6, set3far n1 f7, set3far n1 f8⟩ | go_keep)
      (first | (go_at_call 159; refine (heldE w1 (HU.out _) ?_).mono ?_; (first | assumption | exact Ext.refl _ | exact (Ext.refl _).drew); rintro e w3 ⟨rfl, -, qG⟩; have f0 := qG.keeps K0.out; have f1 := qG.keeps K1.out; have f2 := qG.keeps K2.out; have f3 := qG.keeps D0.out; have f4 := qG.keeps D1.out; have f5 := qG.keeps D2.out; have f6 := qG.keeps D3.out; have f7 := qG.keeps D4.out; have f8 := qG.keeps D5.out; have k0 := qG.keeps Kk0.out; have k1 := qG.keeps Kk1.out; have k2 := qG.keeps Kk2.out; have hs3 : w.heap.size + 1 < w3.heap.size := Nat.lt_of_lt_of_le hsz qG.2.2; have e0 := (qG.2.1 ⟨w.heap.size + 1, 0, none⟩ hsz).trans kf0; have e1 := (qG.2.1 ⟨w.heap.size + 1, 1, none⟩ hsz).trans kf1; have e2 := (qG.2.1 ⟨w.heap.size + 1, 2, none⟩ hsz).trans kf2))
    go_wp2_with fail
    exact bodyPost_ret (v := vv ⟨rk, rn, rs⟩) (by simp [results, Tryz.results143, go_sem, k0, k1, k2]) rfl ⟨ret_vv H.out.symm, by repeat (first | exact hE.trans qG | exact Ext.refl _ | refine Ext.alloc ?_ _ _ | refine Ext.setNew ?_ _ _ (by simp; try omega) _)⟩
  · clear hb ha2 hx hy hlg hH h1 h2 h10 h11 h35
    go_enter Tryz.func143, Tryz.ntmps143
    go_wp2_with fail
    refine (HL.out _).mono ?_; rintro e w1 ⟨rfl, hg⟩
    have k0 := box2r _ _ _ _ hg 0 (.int .i64 0) rfl
    have k1 := box2r _ _ _ _ hg 1 (.int .i64 0) rfl
    have k2 := box2r _ _ _ _ hg 2 (sv []) rfl
    have kf0 := box2f _ _ _ _ hg 0
    have kf1 := box2f _ _ _ _ hg 1
    have kf2 := box2f _ _ _ _ hg 2
    obtain ⟨gc, gf⟩ := gcell hg
    have hsz : w.heap.size + 1 < w1.heap.size := by have := hg.2.2; rw [alsz, alsz] at this; omega
    have hE : Ext w w1 := (((Ext.refl _).alloc _ _).alloc _ _).trans (ext_of_grown hg)
    have K0 := Lib.hid (box2 _ _ _ _ hg 0 (.int .i64 4) rfl)
    have K1 := Lib.hid (box2 _ _ _ _ hg 1 (.int .i64 j) rfl)
    have K2 := Lib.hid (box2 _ _ _ _ hg 2 (.int .i64 i) rfl)
    have n0 : w.heap.size + 1 ≠ w.heap.size := by omega
    have n1 : w.heap.size + 1 ≠ g := by have := World.block_lt_of_cell? _ _ c0; simp only at this; omega
    have D0 := Lib.hid (hE.keeps c0)
    have D1 := Lib.hid (hE.keeps c1)
    have D2 := Lib.hid (hE.keeps c2)
    have D3 := Lib.hid (hE.keeps c3)
    have D4 := Lib.hid (hE.keeps c4)
    have D5 := Lib.hid (hE.keeps c5)
    have Kk0 := Lib.hid k0
    have Kk1 := Lib.hid k1
    have Kk2 := Lib.hid k2
    clear c0 c1 c2 c3 c4 c5
    go_wp2_with fail
    clear gc gf hg k0 k1 k2
    go_region_held3 (fun w' => w'.cell? ⟨w.heap.size, 0, none⟩ = some (.int .i64 4) ∧ w'.cell? ⟨w.heap.size, 1, none⟩ = some (.int .i64 j) ∧ w'.cell? ⟨w.heap.size, 2, none⟩ = some (.int .i64 i) ∧ w'.cell? ⟨g, o + j * 3, none⟩ = some (.int .i64 uk) ∧ w'.cell? ⟨g, o + j * 3 + 1, none⟩ = some (.int .i64 un) ∧ w'.cell? ⟨g, o + j * 3 + 2, none⟩ = some (sv us) ∧ w'.cell? ⟨g, o + i * 3, none⟩ = some (.int .i64 vk) ∧ w'.cell? ⟨g, o + i * 3 + 1, none⟩ = some (.int .i64 vn) ∧ w'.cell? ⟨g, o + i * 3 + 2, none⟩ = some (sv vs)) (first | exact ⟨K0.out, K1.out, K2.out, D0.out, D1.out, D2.out, D3.out, D4.out, D5.out⟩ | exact ⟨f0, f1, f2, f3, f4, f5, f6, f7, f8⟩ | exact ⟨set3far n0 f0, set3far n0 f1, set3far n0 f2, set3far n1 f3, set3far n1 f4, set3far n1 f5, set3far n1 f6, set3far n1 f7, set3far n1 f8⟩ | go_keep)
      (first | (go_at_call 159; refine (heldE w1 (HU.out _) ?_).mono ?_; (first | assumption | exact Ext.refl _ | exact (Ext.refl _).drew); rintro e w3 ⟨rfl, -, qG⟩; have f0 := qG.keeps K0.out; have f1 := qG.keeps K1.out; have f2 := qG.keeps K2.out; have f3 := qG.keeps D0.out; have f4 := qG.keeps D1.out; have f5 := qG.keeps D2.out; have f6 := qG.keeps D3.out; have f7 := qG.keeps D4.out; have f8 := qG.keeps D5.out; have k0 := qG.keeps Kk0.out; have k1 := qG.keeps Kk1.out; have k2 := qG.keeps Kk2.out; have hs3 : w.heap.size + 1 < w3.heap.size := Nat.lt_of_lt_of_le hsz qG.2.2; have e0 := (qG.2.1 ⟨w.heap.size + 1, 0, none⟩ hsz).trans kf0; have e1 := (qG.2.1 ⟨w.heap.size + 1, 1, none⟩ hsz).trans kf1; have e2 := (qG.2.1 ⟨w.heap.size + 1, 2, none⟩ hsz).trans kf2))
    go_wp2_with fail
    exact bodyPost_ret (v := vv ⟨rk, rn, rs⟩) (by simp [results, Tryz.results143, go_sem, k0, k1, k2]) rfl ⟨ret_vv H.out.symm, by repeat (first | exact hE.trans qG | exact Ext.refl _ | refine Ext.alloc ?_ _ _ | refine Ext.setNew ?_ _ _ (by simp; try omega) _)⟩
  · clear hb ha2 hx hy hlg hH h1 h2 h10 h11 h35
    go_enter Tryz.func143, Tryz.ntmps143
    go_wp2_with fail
    refine (HL.out _).mono ?_; rintro e w1 ⟨rfl, hg⟩
    have k0 := box2r _ _ _ _ hg 0 (.int .i64 0) rfl
    have k1 := box2r _ _ _ _ hg 1 (.int .i64 0) rfl
    have k2 := box2r _ _ _ _ hg 2 (sv []) rfl
    have kf0 := box2f _ _ _ _ hg 0
    have kf1 := box2f _ _ _ _ hg 1
    have kf2 := box2f _ _ _ _ hg 2
    obtain ⟨gc, gf⟩ := gcell hg
    have hsz : w.heap.size + 1 < w1.heap.size := by have := hg.2.2; rw [alsz, alsz] at this; omega
    have hE : Ext w w1 := (((Ext.refl _).alloc _ _).alloc _ _).trans (ext_of_grown hg)
    have K0 := Lib.hid (box2 _ _ _ _ hg 0 (.int .i64 5) rfl)
    have K1 := Lib.hid (box2 _ _ _ _ hg 1 (.int .i64 j) rfl)
    have K2 := Lib.hid (box2 _ _ _ _ hg 2 (.int .i64 i) rfl)
    have n0 : w.heap.size + 1 ≠ w.heap.size := by omega
    have n1 : w.heap.size + 1 ≠ g := by have := World.block_lt_of_cell? _ _ c0; simp only at this; omega
    have D0 := Lib.hid (hE.keeps c0)
    have D1 := Lib.hid (hE.keeps c1)
    have D2 := Lib.hid (hE.keeps c2)
    have D3 := Lib.hid (hE.keeps c3)
    have D4 := Lib.hid (hE.keeps c4)
    have D5 := Lib.hid (hE.keeps c5)
    have Kk0 := Lib.hid k0
    have Kk1 := Lib.hid k1
    have Kk2 := Lib.hid k2
    clear c0 c1 c2 c3 c4 c5
    go_wp2_with fail
    clear gc gf hg k0 k1 k2
    go_region_held3 (fun w' => w'.cell? ⟨w.heap.size, 0, none⟩ = some (.int .i64 5) ∧ w'.cell? ⟨w.heap.size, 1, none⟩ = some (.int .i64 j) ∧ w'.cell? ⟨w.heap.size, 2, none⟩ = some (.int .i64 i) ∧ w'.cell? ⟨g, o + j * 3, none⟩ = some (.int .i64 uk) ∧ w'.cell? ⟨g, o + j * 3 + 1, none⟩ = some (.int .i64 un) ∧ w'.cell? ⟨g, o + j * 3 + 2, none⟩ = some (sv us) ∧ w'.cell? ⟨g, o + i * 3, none⟩ = some (.int .i64 vk) ∧ w'.cell? ⟨g, o + i * 3 + 1, none⟩ = some (.int .i64 vn) ∧ w'.cell? ⟨g, o + i * 3 + 2, none⟩ = some (sv vs)) (first | exact ⟨K0.out, K1.out, K2.out, D0.out, D1.out, D2.out, D3.out, D4.out, D5.out⟩ | exact ⟨f0, f1, f2, f3, f4, f5, f6, f7, f8⟩ | exact ⟨set3far n0 f0, set3far n0 f1, set3far n0 f2, set3far n1 f3, set3far n1 f4, set3far n1 f5, set3far n1 f6, set3far n1 f7, set3far n1 f8⟩ | go_keep)
      (first | (go_at_call 159; refine (heldE w1 (HU.out _) ?_).mono ?_; (first | assumption | exact Ext.refl _ | exact (Ext.refl _).drew); rintro e w3 ⟨rfl, -, qG⟩; have f0 := qG.keeps K0.out; have f1 := qG.keeps K1.out; have f2 := qG.keeps K2.out; have f3 := qG.keeps D0.out; have f4 := qG.keeps D1.out; have f5 := qG.keeps D2.out; have f6 := qG.keeps D3.out; have f7 := qG.keeps D4.out; have f8 := qG.keeps D5.out; have k0 := qG.keeps Kk0.out; have k1 := qG.keeps Kk1.out; have k2 := qG.keeps Kk2.out; have hs3 : w.heap.size + 1 < w3.heap.size := Nat.lt_of_lt_of_le hsz qG.2.2; have e0 := (qG.2.1 ⟨w.heap.size + 1, 0, none⟩ hsz).trans kf0; have e1 := (qG.2.1 ⟨w.heap.size + 1, 1, none⟩ hsz).trans kf1; have e2 := (qG.2.1 ⟨w.heap.size + 1, 2, none⟩ hsz).trans kf2))
    go_wp2_with fail
    exact bodyPost_ret (v := vv ⟨rk, rn, rs⟩) (by simp [results, Tryz.results143, go_sem, k0, k1, k2]) rfl ⟨ret_vv H.out.symm, by repeat (first | exact hE.trans qG | exact Ext.refl _ | refine Ext.alloc ?_ _ _ | refine Ext.setNew ?_ _ _ (by simp; try omega) _)⟩
end Go.Proofs.YtbplapkcleipiaaGreatDoor
