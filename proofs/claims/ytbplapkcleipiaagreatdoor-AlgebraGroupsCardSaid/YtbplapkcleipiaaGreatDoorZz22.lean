/- The value of one expression, of the program. -/
import Derived.Test.YtbplapkcleipiaaGreatDoorZz21
namespace Go.Proofs.YtbplapkcleipiaaGreatDoor
open Go.ChangeShapes Go.WideShapes Go.ChangeAt Go.RowKit

set_option maxHeartbeats 8000000 in
theorem evo_69 (x : X) (pre row : List V) (vp vr : Value) (w : World) (hp : RdG w vp pre) (hr : RdG w vr row) (hop : ∀ v ∈ pre, okN v.n) (hb : lgl x pre.length = true) (h1 : x.op ≠ 1) (h2 : x.op ≠ 2) (h10 : x.op ≠ 10) (h11 : x.op ≠ 11) (h35 : ¬ (3 ≤ x.op ∧ x.op ≤ 5)) (h69 : 6 ≤ x.op ∧ x.op ≤ 9) : Calls Tryz.prog 143 #[xv x, vp, vr] w fun e w' => e = .returned (vv (evO x pre row)) ∧ Ext w w' := by
  obtain ⟨ap, cp, rfl, lp1, lp2⟩ := hp.shape
  obtain ⟨ac, cc, rfl, lc1, lc2⟩ := hr.shape
  have hL := lgl_prg x pre.length
  have HP := Lib.hid hp
  have HR := Lib.hid hr
  have HO := Lib.hid hop
  clear hp hr hop
  unfold maxLen at lp2 lc2
  obtain ⟨op, a, b, col, ⟨k, n, s⟩⟩ := x
  simp only at h1 h2 h10 h11 h35 h69
  rw [hb] at hL
  have HL := Lib.hid hL
  clear hL
  have ha2 := show ari op = 2 by unfold ari; rw [if_neg (by omega), if_neg (by omega), if_pos (by omega)]
  have hlg := lgl_two (x := ⟨op, a, b, col, ⟨k, n, s⟩⟩) ha2 ▸ hb
  rw [Bool.and_eq_true] at hlg
  have hx := lgA_lt hlg.1
  have hy := lgB_lt hlg.2
  simp only at hx hy
  obtain ⟨j, rfl⟩ := nat_of hx.1
  obtain ⟨i, rfl⟩ := nat_of hy.1
  have hj : j < pre.length := by omega
  have hi : i < pre.length := by omega
  have hU := dec_prg op h69 pre[j] pre[i]
  have hBo := boo_prg (decB op pre[j] pre[i])
  have hH : evO ⟨op, j, i, col, ⟨k, n, s⟩⟩ pre row = booV (decB op pre[j] pre[i]) := by unfold evO; rw [if_neg (by rw [hb]; decide), if_neg h1, if_neg h2, if_neg (by omega), if_pos h69, atV_at _ _ hj, atV_at _ _ hi]
  generalize decB op pre[j] pre[i] = rb at *
  generalize booV rb = rr at *
  obtain ⟨rk, rn, rs⟩ := rr
  have HU := Lib.hid (fun w => gE2 (hU w))
  have HBo := Lib.hid hBo
  clear hU hBo
  obtain ⟨g, o, rfl, c0, c1, c2⟩ := rd_V HP.out j hj
  obtain ⟨g2, o2, e2, c3, c4, c5⟩ := rd_V HP.out i hi
  simp only [Option.some.injEq, Addr.mk.injEq, and_true] at e2
  obtain ⟨rfl, rfl⟩ := e2
  generalize pre[j] = u at *
  generalize pre[i] = v at *
  obtain ⟨uk, un, us⟩ := u
  obtain ⟨vk, vn, vs⟩ := v
  simp only at c0 c1 c2 c3 c4 c5
  have H := Lib.hid hH
  have hjl : (j : Int) < (pre.length : Int) := by omega
  have hil : (i : Int) < (pre.length : Int) := by omega
  rcases (show op = 6 ∨ op = 7 ∨ op = 8 ∨ op = 9 by omega) with rfl | rfl | rfl | rfl
  · clear hb ha2 hx hy hlg hH h1 h2 h10 h11 h69 h35
    go_enter Tryz.func143, Tryz.ntmps143
    go_wp2_with fail
    refine (HL.out _).mono ?_; rintro e w1 ⟨rfl, hg⟩
    have k0 := box2r _ _ _ _ hg 0 (.int .i64 0) rfl
    have k1 := box2r _ _ _ _ hg 1 (.int .i64 0) rfl
    have k2 := box2r _ _ _ _ hg 2 (sv []) rfl
    have kf0 := box2f _ _ _ _ hg 0
    have kf1 := box2f _ _ _ _ hg 1
    have kf2 := box2f _ _ _ _ hg 2
    obtain ⟨gc, gf⟩ := gcell hg
    have hsz : w.heap.size + 1 < w1.heap.size := by have := hg.2.2; rw [alsz, alsz] at this; omega
    have hE : Ext w w1 := (((Ext.refl _).alloc _ _).alloc _ _).trans (ext_of_grown hg)
    have K0 := Lib.hid (box2 _ _ _ _ hg 0 (.int .i64 6) rfl)
    have K1 := Lib.hid (box2 _ _ _ _ hg 1 (.int .i64 j) rfl)
    have K2 := Lib.hid (box2 _ _ _ _ hg 2 (.int .i64 i) rfl)
    have n0 : w.heap.size + 1 ≠ w.heap.size := by omega
    have n1 : w.heap.size + 1 ≠ g := by have := World.block_lt_of_cell? _ _ c0; simp only at this; omega
    have D0 := Lib.hid (hE.keeps c0)
    have D1 := Lib.hid (hE.keeps c1)
    have D2 := Lib.hid (hE.keeps c2)
    have D3 := Lib.hid (hE.keeps c3)
    have D4 := Lib.hid (hE.keeps c4)
    have D5 := Lib.hid (hE.keeps c5)
    have Kk0 := Lib.hid k0
    have Kk1 := Lib.hid k1
    have Kk2 := Lib.hid k2
    clear c0 c1 c2 c3 c4 c5
    go_wp2_with fail
    clear gc gf hg k0 k1 k2
    go_region_held3 (fun w' => w'.cell? ⟨w.heap.size, 0, none⟩ = some (.int .i64 6) ∧ w'.cell? ⟨w.heap.size, 1, none⟩ = some (.int .i64 j) ∧ w'.cell? ⟨w.heap.size, 2, none⟩ = some (.int .i64 i) ∧ w'.cell? ⟨g, o + j * 3, none⟩ = some (.int .i64 uk) ∧ w'.cell? ⟨g, o + j * 3 + 1, none⟩ = some (.int .i64 un) ∧ w'.cell? ⟨g, o + j * 3 + 2, none⟩ = some (sv us) ∧ w'.cell? ⟨g, o + i * 3, none⟩ = some (.int .i64 vk) ∧ w'.cell? ⟨g, o + i * 3 + 1, none⟩ = some (.int .i64 vn) ∧ w'.cell? ⟨g, o + i * 3 + 2, none⟩ = some (sv vs)) (first | exact ⟨K0.out, K1.out, K2.out, D0.out, D1.out, D2.out, D3.out, D4.out, D5.out⟩ | exact ⟨f0, f1, f2, f3, f4, f5, f6, f7, f8⟩ | exact ⟨set3far n0 f0, set3far n0 f1, set3far n0 f2, set3far n1 f3, set3far n1 f4, set3far n1 f5, set3far n1 f6, set3far n1 f7, set3far n1 f8⟩ | go_keep)
      (first | (go_at_call 160; refine (heldE w1 (HU.out _) ?_).mono ?_; (first | assumption | exact Ext.refl _ | exact (Ext.refl _).drew); rintro e w3 ⟨rfl, -, qG0⟩; have f0 := qG0.keeps K0.out; have f1 := qG0.keeps K1.out; have f2 := qG0.keeps K2.out; have f3 := qG0.keeps D0.out; have f4 := qG0.keeps D1.out; have f5 := qG0.keeps D2.out; have f6 := qG0.keeps D3.out; have f7 := qG0.keeps D4.out; have f8 := qG0.keeps D5.out; have k0 := qG0.keeps Kk0.out; have k1 := qG0.keeps Kk1.out; have k2 := qG0.keeps Kk2.out; have hs0 : w.heap.size + 1 < w3.heap.size := Nat.lt_of_lt_of_le hsz qG0.2.2; have e0 := (qG0.2.1 ⟨w.heap.size + 1, 0, none⟩ hsz).trans kf0; have e1 := (qG0.2.1 ⟨w.heap.size + 1, 1, none⟩ hsz).trans kf1; have e2 := (qG0.2.1 ⟨w.heap.size + 1, 2, none⟩ hsz).trans kf2) | (go_at_call 157; refine (heldE w1 (HBo.out _) ?_).mono ?_; (first | assumption | exact Ext.refl _ | exact (Ext.refl _).drew); rintro e w3 ⟨rfl, -, qG⟩; have f0 := qG.keeps K0.out; have f1 := qG.keeps K1.out; have f2 := qG.keeps K2.out; have f3 := qG.keeps D0.out; have f4 := qG.keeps D1.out; have f5 := qG.keeps D2.out; have f6 := qG.keeps D3.out; have f7 := qG.keeps D4.out; have f8 := qG.keeps D5.out; have k0 := qG.keeps Kk0.out; have k1 := qG.keeps Kk1.out; have k2 := qG.keeps Kk2.out; have hs3 : w.heap.size + 1 < w3.heap.size := Nat.lt_of_lt_of_le hsz qG.2.2; have e0 := (qG.2.1 ⟨w.heap.size + 1, 0, none⟩ hsz).trans kf0; have e1 := (qG.2.1 ⟨w.heap.size + 1, 1, none⟩ hsz).trans kf1; have e2 := (qG.2.1 ⟨w.heap.size + 1, 2, none⟩ hsz).trans kf2))
    go_wp2_with fail
    exact bodyPost_ret (v := vv ⟨rk, rn, rs⟩) (by simp [results, Tryz.results143, go_sem, k0, k1, k2]) rfl ⟨ret_vv H.out.symm, by repeat (first | exact hE.trans qG | exact Ext.refl _ | refine Ext.alloc ?_ _ _ | refine Ext.setNew ?_ _ _ (by simp; try omega) _)⟩
  · clear hb ha2 hx hy hlg hH h1 h2 h10 h11 h69 h35
    go_enter Tryz.func143, Tryz.ntmps143
    go_wp2_with fail
    refine (HL.out _).mono ?_; rintro e w1 ⟨rfl, hg⟩
    have k0 := box2r _ _ _ _ hg 0 (.int .i64 0) rfl
    have k1 := box2r _ _ _ _ hg 1 (.int .i64 0) rfl
    have k2 := box2r _ _ _ _ hg 2 (sv []) rfl
    have kf0 := box2f _ _ _ _ hg 0
    have kf1 := box2f _ _ _ _ hg 1
    have kf2 := box2f _ _ _ _ hg 2
    obtain ⟨gc, gf⟩ := gcell hg
    have hsz : w.heap.size + 1 < w1.heap.size := by have := hg.2.2; rw [alsz, alsz] at this; omega
    have hE : Ext w w1 := (((Ext.refl _).alloc _ _).alloc _ _).trans (ext_of_grown hg)
    have K0 := Lib.hid (box2 _ _ _ _ hg 0 (.int .i64 7) rfl)
    have K1 := Lib.hid (box2 _ _ _ _ hg 1 (.int .i64 j) rfl)
    have K2 := Lib.hid (box2 _ _ _ _ hg 2 (.int .i64 i) rfl)
    have n0 : w.heap.size + 1 ≠ w.heap.size := by omega
    have n1 : w.heap.size + 1 ≠ g := by have := World.block_lt_of_cell? _ _ c0; simp only at this; omega
    have D0 := Lib.hid (hE.keeps c0)
    have D1 := Lib.hid (hE.keeps c1)
    have D2 := Lib.hid (hE.keeps c2)
    have D3 := Lib.hid (hE.keeps c3)
    have D4 := Lib.hid (hE.keeps c4)
    have D5 := Lib.hid (hE.keeps c5)
    have Kk0 := Lib.hid k0
    have Kk1 := Lib.hid k1
    have Kk2 := Lib.hid k2
    clear c0 c1 c2 c3 c4 c5
    go_wp2_with fail
    clear gc gf hg k0 k1 k2
    go_region_held3 (fun w' => w'.cell? ⟨w.heap.size, 0, none⟩ = some (.int .i64 7) ∧ w'.cell? ⟨w.heap.size, 1, none⟩ = some (.int .i64 j) ∧ w'.cell? ⟨w.heap.size, 2, none⟩ = some (.int .i64 i) ∧ w'.cell? ⟨g, o + j * 3, none⟩ = some (.int .i64 uk) ∧ w'.cell? ⟨g, o + j * 3 + 1, none⟩ = some (.int .i64 un) ∧ w'.cell? ⟨g, o + j * 3 + 2, none⟩ = some (sv us) ∧ w'.cell? ⟨g, o + i * 3, none⟩ = some (.int .i64 vk) ∧ w'.cell? ⟨g, o + i * 3 + 1, none⟩ = some (.int .i64 vn) ∧ w'.cell? ⟨g, o + i * 3 + 2, none⟩ = some (sv vs)) (first | exact ⟨K0.out, K1.out, K2.out, D0.out, D1.out, D2.out, D3.out, D4.out, D5.out⟩ | exact ⟨f0, f1, f2, f3, f4, f5, f6, f7, f8⟩ | exact ⟨set3far n0 f0, set3far n0 f1, set3far n0 f2, set3far n1 f3, set3far n1 f4, set3far n1 f5, set3far n1 f6, set3far n1 f7, set3far n1 f8⟩ | go_keep)
      (first | (go_at_call 160; refine (heldE w1 (HU.out _) ?_).mono ?_; (first | assumption | exact Ext.refl _ | exact (Ext.refl _).drew); rintro e w3 ⟨rfl, -, qG0⟩; have f0 := qG0.keeps K0.out; have f1 := qG0.keeps K1.out; have f2 := qG0.keeps K2.out; have f3 := qG0.keeps D0.out; have f4 := qG0.keeps D1.out; have f5 := qG0.keeps D2.out; have f6 := qG0.keeps D3.out; have f7 := qG0.keeps D4.out; have f8 := qG0.keeps D5.out; have k0 := qG0.keeps Kk0.out; have k1 := qG0.keeps Kk1.out; have k2 := qG0.keeps Kk2.out; have hs0 : w.heap.size + 1 < w3.heap.size := Nat.lt_of_lt_of_le hsz qG0.2.2; have e0 := (qG0.2.1 ⟨w.heap.size + 1, 0, none⟩ hsz).trans kf0; have e1 := (qG0.2.1 ⟨w.heap.size + 1, 1, none⟩ hsz).trans kf1; have e2 := (qG0.2.1 ⟨w.heap.size + 1, 2, none⟩ hsz).trans kf2) | (go_at_call 157; refine (heldE w1 (HBo.out _) ?_).mono ?_; (first | assumption | exact Ext.refl _ | exact (Ext.refl _).drew); rintro e w3 ⟨rfl, -, qG⟩; have f0 := qG.keeps K0.out; have f1 := qG.keeps K1.out; have f2 := qG.keeps K2.out; have f3 := qG.keeps D0.out; have f4 := qG.keeps D1.out; have f5 := qG.keeps D2.out; have f6 := qG.keeps D3.out; have f7 := qG.keeps D4.out; have f8 := qG.keeps D5.out; have k0 := qG.keeps Kk0.out; have k1 := qG.keeps Kk1.out; have k2 := qG.keeps Kk2.out; have hs3 : w.heap.size + 1 < w3.heap.size := Nat.lt_of_lt_of_le hsz qG.2.2; have e0 := (qG.2.1 ⟨w.heap.size + 1, 0, none⟩ hsz).trans kf0; have e1 := (qG.2.1 ⟨w.heap.size + 1, 1, none⟩ hsz).trans kf1; have e2 := (qG.2.1 ⟨w.heap.size + 1, 2, none⟩ hsz).trans kf2))
    go_wp2_with fail
    exact bodyPost_ret (v := vv ⟨rk, rn, rs⟩) (by simp [results, Tryz.results143, go_sem, k0, k1, k2]) rfl ⟨ret_vv H.out.symm, by repeat (first | exact hE.trans qG | exact Ext.refl _ | refine Ext.alloc ?_ _ _ | refine Ext.setNew ?_ _ _ (by simp; try omega) _)⟩
  · clear hb ha2 hx hy hlg hH h1 h2 h10 h11 h69 h35
    go_enter Tryz.func143, Tryz.ntmps143
    go_wp2_with fail
    refine (HL.out _).mono ?_; rintro e w1 ⟨rfl, hg⟩
    have k0 := box2r _ _ _ _ hg 0 (.int .i64 0) rfl
    have k1 := box2r _ _ _ _ hg 1 (.int .i64 0) rfl
    have k2 := box2r _ _ _ _ hg 2 (sv []) rfl
    have kf0 := box2f _ _ _ _ hg 0
    have kf1 := box2f _ _ _ _ hg 1
    have kf2 := box2f _ _ _ _ hg 2
    obtain ⟨gc, gf⟩ := gcell hg
    have hsz : w.heap.size + 1 < w1.heap.size := by have := hg.2.2; rw [alsz, alsz] at this; omega
    have hE : Ext w w1 := (((Ext.refl _).alloc _ _).alloc _ _).trans (ext_of_grown hg)
    have K0 := Lib.hid (box2 _ _ _ _ hg 0 (.int .i64 8) rfl)
    have K1 := Lib.hid (box2 _ _ _ _ hg 1 (.int .i64 j) rfl)
    have K2 := Lib.hid (box2 _ _ _ _ hg 2 (.int .i64 i) rfl)
    have n0 : w.heap.size + 1 ≠ w.heap.size := by omega
    have n1 : w.heap.size + 1 ≠ g := by have := World.block_lt_of_cell? _ _ c0; simp only at this; omega
    have D0 := Lib.hid (hE.keeps c0)
    have D1 := Lib.hid (hE.keeps c1)
    have D2 := Lib.hid (hE.keeps c2)
    have D3 := Lib.hid (hE.keeps c3)
    have D4 := Lib.hid (hE.keeps c4)
    have D5 := Lib.hid (hE.keeps c5)
    have Kk0 := Lib.hid k0
    have Kk1 := Lib.hid k1
    have Kk2 := Lib.hid k2
    clear c0 c1 c2 c3 c4 c5
    go_wp2_with fail
    clear gc gf hg k0 k1 k2
    go_region_held3 (fun w' => w'.cell? ⟨w.heap.size, 0, none⟩ = some (.int .i64 8) ∧ w'.cell? ⟨w.heap.size, 1, none⟩ = some (.int .i64 j) ∧ w'.cell? ⟨w.heap.size, 2, none⟩ = some (.int .i64 i) ∧ w'.cell? ⟨g, o + j * 3, none⟩ = some (.int .i64 uk) ∧ w'.cell? ⟨g, o + j * 3 + 1, none⟩ = some (.int .i64 un) ∧ w'.cell? ⟨g, o + j * 3 + 2, none⟩ = some (sv us) ∧ w'.cell? ⟨g, o + i * 3, none⟩ = some (.int .i64 vk) ∧ w'.cell? ⟨g, o + i * 3 + 1, none⟩ = some (.int .i64 vn) ∧ w'.cell? ⟨g, o + i * 3 + 2, none⟩ = some (sv vs)) (first | exact ⟨K0.out, K1.out, K2.out, D0.out, D1.out, D2.out, D3.out, D4.out, D5.out⟩ | exact ⟨f0, f1, f2, f3, f4, f5, f6, f7, f8⟩ | exact ⟨set3far n0 f0, set3far n0 f1, set3far n0 f2, set3far n1 f3, set3far n1 f4, set3far n1 f5, set3far n1 f6, set3far n1 f7, set3far n1 f8⟩ | go_keep)
      (first | (go_at_call 160; refine (heldE w1 (HU.out _) ?_).mono ?_; (first | assumption | exact Ext.refl _ | exact (Ext.refl _).drew); rintro e w3 ⟨rfl, -, qG0⟩; have f0 := qG0.keeps K0.out; have f1 := qG0.keeps K1.out; have f2 := qG0.keeps K2.out; have f3 := qG0.keeps D0.out; have f4 := qG0.keeps D1.out; have f5 := qG0.keeps D2.out; have f6 := qG0.keeps D3.out; have f7 := qG0.keeps D4.out; have f8 := qG0.keeps D5.out; have k0 := qG0.keeps Kk0.out; have k1 := qG0.keeps Kk1.out; have k2 := qG0.keeps Kk2.out; have hs0 : w.heap.size + 1 < w3.heap.size := Nat.lt_of_lt_of_le hsz qG0.2.2; have e0 := (qG0.2.1 ⟨w.heap.size + 1, 0, none⟩ hsz).trans kf0; have e1 := (qG0.2.1 ⟨w.heap.size + 1, 1, none⟩ hsz).trans kf1; have e2 := (qG0.2.1 ⟨w.heap.size + 1, 2, none⟩ hsz).trans kf2) | (go_at_call 157; refine (heldE w1 (HBo.out _) ?_).mono ?_; (first | assumption | exact Ext.refl _ | exact (Ext.refl _).drew); rintro e w3 ⟨rfl, -, qG⟩; have f0 := qG.keeps K0.out; have f1 := qG.keeps K1.out; have f2 := qG.keeps K2.out; have f3 := qG.keeps D0.out; have f4 := qG.keeps D1.out; have f5 := qG.keeps D2.out; have f6 := qG.keeps D3.out; have f7 := qG.keeps D4.out; have f8 := qG.keeps D5.out; have k0 := qG.keeps Kk0.out; have k1 := qG.keeps Kk1.out; have k2 := qG.keeps Kk2.out; have hs3 : w.heap.size + 1 < w3.heap.size := Nat.lt_of_lt_of_le hsz qG.2.2; have e0 := (qG.2.1 ⟨w.heap.size + 1, 0, none⟩ hsz).trans kf0; have e1 := (qG.2.1 ⟨w.heap.size + 1, 1, none⟩ hsz).trans kf1; have e2 := (qG.2.1 ⟨w.heap.size + 1, 2, none⟩ hsz).trans kf2))
    go_wp2_with fail
    exact bodyPost_ret (v := vv ⟨rk, rn, rs⟩) (by simp [results, Tryz.results143, go_sem, k0, k1, k2]) rfl ⟨ret_vv H.out.symm, by repeat (first | exact hE.trans qG | exact Ext.refl _ | refine Ext.alloc ?_ _ _ | refine Ext.setNew ?_ _ _ (by simp; try omega) _)⟩
  · clear hb ha2 hx hy hlg hH h1 h2 h10 h11 h69 h35
    go_enter Tryz.func143, Tryz.ntmps143
    go_wp2_with fail
    refine (HL.out _).mono ?_; rintro e w1 ⟨rfl, hg⟩
    have k0 := box2r _ _ _ _ hg 0 (.int .i64 0) rfl
    have k1 := box2r _ _ _ _ hg 1 (.int .i64 0) rfl
    have k2 := box2r _ _ _ _ hg 2 (sv []) rfl
    have kf0 := box2f _ _ _ _ hg 0
    have kf1 := box2f _ _ _ _ hg 1
    have kf2 := box2f _ _ _ _ hg 2
    obtain ⟨gc, gf⟩ := gcell hg
    have hsz : w.heap.size + 1 < w1.heap.size := by have := hg.2.2; rw [alsz, alsz] at this; omega
    have hE : Ext w w1 := (((Ext.refl _).alloc _ _).alloc _ _).trans (ext_of_grown hg)
    have K0 := Lib.hid (box2 _ _ _ _ hg 0 (.int .i64 9) rfl)
    have K1 := Lib.hid (box2 _ _ _ _ hg 1 (.int .i64 j) rfl)
    have K2 := Lib.hid (box2 _ _ _ _ hg 2 (.int .i64 i) rfl)
    have n0 : w.heap.size + 1 ≠ w.heap.size := by omega
    have n1 : w.heap.size + 1 ≠ g := by have := World.block_lt_of_cell? _ _ c0; simp only at this; omega
    have D0 := Lib.hid (hE.keeps c0)
    have D1 := Lib.hid (hE.keeps c1)
    have D2 := Lib.hid (hE.keeps c2)
    have D3 := Lib.hid (hE.keeps c3)
    have D4 := Lib.hid (hE.keeps c4)
    have D5 := Lib.hid (hE.keeps c5)
    have Kk0 := Lib.hid k0
    have Kk1 := Lib.hid k1
    have Kk2 := Lib.hid k2
    clear c0 c1 c2 c3 c4 c5
    go_wp2_with fail
    clear gc gf hg k0 k1 k2
    go_region_held3 (fun w' => w'.cell? ⟨w.heap.size, 0, none⟩ = some (.int .i64 9) ∧ w'.cell? ⟨w.heap.size, 1, none⟩ = some (.int .i64 j) ∧ w'.cell? ⟨w.heap.size, 2, none⟩ = some (.int .i64 i) ∧ w'.cell? ⟨g, o + j * 3, none⟩ = some (.int .i64 uk) ∧ w'.cell? ⟨g, o + j * 3 + 1, none⟩ = some (.int .i64 un) ∧ w'.cell? ⟨g, o + j * 3 + 2, none⟩ = some (sv us) ∧ w'.cell? ⟨g, o + i * 3, none⟩ = some (.int .i64 vk) ∧ w'.cell? ⟨g, o + i * 3 + 1, none⟩ = some (.int .i64 vn) ∧ w'.cell? ⟨g, o + i * 3 + 2, none⟩ = some (sv vs)) (first | exact ⟨K0.out, K1.out, K2.out, D0.out, D1.out, D2.out, D3.out, D4.out, D5.out⟩ | exact ⟨f0, f1, f2, f3, f4, f5, f6, f7, f8⟩ | exact ⟨set3far n0 f0, set3far n0 f1, set3far n0 f2, set3far n1 f3, set3far n1 f4, set3far n1 f5, set3far n1 f6, set3far n1 f7, set3far n1 f8⟩ | go_keep)
      (first | (go_at_call 160; refine (heldE w1 (HU.out _) ?_).mono ?_; (first | assumption | exact Ext.refl _ | exact (Ext.refl _).drew); rintro e w3 ⟨rfl, -, qG0⟩; have f0 := qG0.keeps K0.out; have f1 := qG0.keeps K1.out; have f2 := qG0.keeps K2.out; have f3 := qG0.keeps D0.out; have f4 := qG0.keeps D1.out; have f5 := qG0.keeps D2.out; have f6 := qG0.keeps D3.out; have f7 := qG0.keeps D4.out; have f8 := qG0.keeps D5.out; have k0 := qG0.keeps Kk0.out; have k1 := qG0.keeps Kk1.out; have k2 := qG0.keeps Kk2.out; have hs0 : w.heap.size + 1 < w3.heap.size := Nat.lt_of_lt_of_le hsz qG0.2.2; have e0 := (qG0.2.1 ⟨w.heap.size + 1, 0, none⟩ hsz).trans kf0; have e1 := (qG0.2.1 ⟨w.heap.size + 1, 1, none⟩ hsz).trans kf1; have e2 := (qG0.2.1 ⟨w.heap.size + 1, 2, none⟩ hsz).trans kf2) | (go_at_call 157; refine (heldE w1 (HBo.out _) ?_).mono ?_; (first | assumption | exact Ext.refl _ | exact (Ext.refl _).drew); rintro e w3 ⟨rfl, -, qG⟩; have f0 := qG.keeps K0.out; have f1 := qG.keeps K1.out; have f2 := qG.keeps K2.out; have f3 := qG.keeps D0.out; have f4 := qG.keeps D1.out; have f5 := qG.keeps D2.out; have f6 := qG.keeps D3.out; have f7 := qG.keeps D4.out; have f8 := qG.keeps D5.out; have k0 := qG.keeps Kk0.out; have k1 := qG.keeps Kk1.out; have k2 := qG.keeps Kk2.out; have hs3 : w.heap.size + 1 < w3.heap.size := Nat.lt_of_lt_of_le hsz qG.2.2; have e0 := (qG.2.1 ⟨w.heap.size + 1, 0, none⟩ hsz).trans kf0; have e1 := (qG.2.1 ⟨w.heap.size + 1, 1, none⟩ hsz).trans kf1; have e2 := (qG.2.1 ⟨w.heap.size + 1, 2, none⟩ hsz).trans kf2))
    go_wp2_with fail
    exact bodyPost_ret (v := vv ⟨rk, rn, rs⟩) (by simp [results, Tryz.results143, go_sem, k0, k1, k2]) rfl ⟨ret_vv H.out.symm, by repeat (first | exact hE.trans qG | exact Ext.refl _ | refine Ext.alloc ?_ _ _ | refine Ext.setNew ?_ _ _ (by simp; try omega) _)⟩
end Go.Proofs.YtbplapkcleipiaaGreatDoor
/- The value of one expression, of the program. -/
namespace Go.Proofs.YtbplapkcleipiaaGreatDoor
open Go.ChangeShapes Go.WideShapes Go.ChangeAt Go.RowKit

set_option maxHeartbeats 8000000 in
theorem evo_2 (x : X) (pre row : List V) (vp vr : Value) (w : World) (hp : RdG w vp pre) (hr : RdG w vr row) (hop : ∀ v ∈ pre, okN v.n) (hb : lgl x pre.length = true) (h1 : x.op ≠ 1) (h2 : x.op = 2) : Calls Tryz.prog 143 #[xv x, vp, vr] w fun e w' => e = .returned (vv (evO x pre row)) ∧ Ext w w' := by
  obtain ⟨ap, cp, rfl, lp1, lp2⟩ := hp.shape
  obtain ⟨ac, cc, rfl, lc1, lc2⟩ := hr.shape
  have hL := lgl_prg x pre.length
  have HP := Lib.hid hp
  have HR := Lib.hid hr
  have HO := Lib.hid hop
  clear hp hr hop
  unfold maxLen at lp2 lc2
  obtain ⟨op, a, b, col, ⟨k, n, s⟩⟩ := x
  simp only at h1 h2
  rw [hb] at hL
  have HL := Lib.hid hL
  clear hL
  subst h2
  have hI := isx_prg col row.length
  cases hi : isIx col row.length with
  | false =>
    have H := Lib.hid (show evO ⟨2, a, b, col, ⟨k, n, s⟩⟩ pre row = ⟨0, 0, []⟩ by unfold evO; rw [if_neg (by rw [hb]; decide), if_neg (by simp), if_pos rfl, if_neg (by rw [hi]; decide)]; rfl)
    rw [hi] at hI
    have HI := Lib.hid hI
    clear hb hI hi h1
    go_enter Tryz.func143, Tryz.ntmps143
    go_wp2_with fail
    refine (HL.out _).mono ?_; rintro e w1 ⟨rfl, hg⟩
    have k0 := box2r _ _ _ _ hg 0 (.int .i64 0) rfl
    have k1 := box2r _ _ _ _ hg 1 (.int .i64 0) rfl
    have k2 := box2r _ _ _ _ hg 2 (sv []) rfl
    have kf0 := box2f _ _ _ _ hg 0
    have kf1 := box2f _ _ _ _ hg 1
    have kf2 := box2f _ _ _ _ hg 2
    obtain ⟨gc, gf⟩ := gcell hg
    have hsz : w.heap.size + 1 < w1.heap.size := by have := hg.2.2; rw [alsz, alsz] at this; omega
    have hE : Ext w w1 := (((Ext.refl _).alloc _ _).alloc _ _).trans (ext_of_grown hg)
    go_wp2_with fail
    refine (HI.out _).mono ?_; rintro e w2 ⟨rfl, rfl⟩
    go_wp2_with fail
    exact bodyPost_ret (v := vv ⟨0, 0, []⟩) (by simp [results, Tryz.results143, go_sem, k0, k1, k2]) rfl ⟨ret_vv H.out.symm, by repeat (first | exact hE | exact Ext.refl _ | refine Ext.alloc ?_ _ _ | refine Ext.setNew ?_ _ _ (by simp; try omega) _)⟩
  | true =>
    have hx := (isIx_iff _ _).1 hi
    obtain ⟨j, rfl⟩ := nat_of hx.1
    have hj : j < row.length := by omega
    have hH : evO ⟨2, a, b, j, ⟨k, n, s⟩⟩ pre row = row[j] := by unfold evO; rw [if_neg (by rw [hb]; decide), if_neg (by simp), if_pos rfl, if_pos hi, atV_at _ _ hj]
    rw [hi] at hI
    have HI := Lib.hid hI
    obtain ⟨g, o, rfl, c0, c1, c2⟩ := rd_V HR.out j hj
    generalize row[j] = v at *
    obtain ⟨vk, vn, vs⟩ := v
    simp only at c0 c1 c2
    have H := Lib.hid hH
    have hjl : (j : Int) < (row.length : Int) := by omega
    clear hb hI hi h1 hx hH
    go_enter Tryz.func143, Tryz.ntmps143
    go_wp2_with fail
    refine (HL.out _).mono ?_; rintro e w1 ⟨rfl, hg⟩
    have k0 := box2r _ _ _ _ hg 0 (.int .i64 0) rfl
    have k1 := box2r _ _ _ _ hg 1 (.int .i64 0) rfl
    have k2 := box2r _ _ _ _ hg 2 (sv []) rfl
    have kf0 := box2f _ _ _ _ hg 0
    have kf1 := box2f _ _ _ _ hg 1
    have kf2 := box2f _ _ _ _ hg 2
    obtain ⟨gc, gf⟩ := gcell hg
    have hsz : w.heap.size + 1 < w1.heap.size := by have := hg.2.2; rw [alsz, alsz] at this; omega
    have hE : Ext w w1 := (((Ext.refl _).alloc _ _).alloc _ _).trans (ext_of_grown hg)
    have d0 := hE.keeps c0
    have d1 := hE.keeps c1
    have d2 := hE.keeps c2
    go_wp2_with fail
    refine (HI.out _).mono ?_; rintro e w2 ⟨rfl, rfl⟩
    go_wp2_with fail
    exact bodyPost_ret (v := vv ⟨vk, vn, vs⟩) (by simp [results, Tryz.results143, go_sem, k0, k1, k2]) rfl ⟨ret_vv H.out.symm, by repeat (first | exact hE | exact Ext.refl _ | refine Ext.alloc ?_ _ _ | refine Ext.setNew ?_ _ _ (by simp; try omega) _)⟩
end Go.Proofs.YtbplapkcleipiaaGreatDoor
/- The value of one expression, of the program. -/
namespace Go.Proofs.YtbplapkcleipiaaGreatDoor
open Go.ChangeShapes Go.WideShapes Go.ChangeAt Go.RowKit

set_option maxHeartbeats 8000000 in
theorem evo_else (x : X) (pre row : List V) (vp vr : Value) (w : World) (hp : RdG w vp pre) (hr : RdG w vr row) (hop : ∀ v ∈ pre, okN v.n) (hb : lgl x pre.length = true) (h1 : x.op ≠ 1) (h2 : x.op ≠ 2) (h10 : x.op ≠ 10) (h11 : x.op ≠ 11) (h35 : ¬ (3 ≤ x.op ∧ x.op ≤ 5)) (h69 : ¬ (6 ≤ x.op ∧ x.op ≤ 9)) : Calls Tryz.prog 143 #[xv x, vp, vr] w fun e w' => e = .returned (vv (evO x pre row)) ∧ Ext w w' := by
  obtain ⟨ap, cp, rfl, lp1, lp2⟩ := hp.shape
  obtain ⟨ac, cc, rfl, lc1, lc2⟩ := hr.shape
  have hL := lgl_prg x pre.length
  have HP := Lib.hid hp
  have HR := Lib.hid hr
  have HO := Lib.hid hop
  clear hp hr hop
  unfold maxLen at lp2 lc2
  obtain ⟨op, a, b, col, ⟨k, n, s⟩⟩ := x
  simp only at h1 h2 h10 h11 h35 h69
  rw [hb] at hL
  have HL := Lib.hid hL
  clear hL
  have H := Lib.hid (show evO ⟨op, a, b, col, ⟨k, n, s⟩⟩ pre row = ⟨0, 0, []⟩ by unfold evO; rw [if_neg (by rw [hb]; decide), if_neg h1, if_neg h2, if_neg h35, if_neg h69, if_neg h10, if_neg h11]; rfl)
  have q1 : (op == 1) = false := by simpa using (show op ≠ 1 by omega)
  have q2 : (op == 2) = false := by simpa using (show op ≠ 2 by omega)
  have q3 : (op == 3) = false := by simpa using (show op ≠ 3 by omega)
  have q4 : (op == 4) = false := by simpa using (show op ≠ 4 by omega)
  have q5 : (op == 5) = false := by simpa using (show op ≠ 5 by omega)
  have q6 : (op == 6) = false := by simpa using (show op ≠ 6 by omega)
  have q7 : (op == 7) = false := by simpa using (show op ≠ 7 by omega)
  have q8 : (op == 8) = false := by simpa using (show op ≠ 8 by omega)
  have q9 : (op == 9) = false := by simpa using (show op ≠ 9 by omega)
  have q10 : (op == 10) = false := by simpa using (show op ≠ 10 by omega)
  have q11 : (op == 11) = false := by simpa using (show op ≠ 11 by omega)
  clear hb h1 h2 h35 h69 h10 h11
  go_enter Tryz.func143, Tryz.ntmps143
  go_wp2_with fail
  refine (HL.out _).mono ?_; rintro e w1 ⟨rfl, hg⟩
  have k0 := box2r _ _ _ _ hg 0 (.int .i64 0) rfl
  have k1 := box2r _ _ _ _ hg 1 (.int .i64 0) rfl
  have k2 := box2r _ _ _ _ hg 2 (sv []) rfl
  have kf0 := box2f _ _ _ _ hg 0
  have kf1 := box2f _ _ _ _ hg 1
  have kf2 := box2f _ _ _ _ hg 2
  obtain ⟨gc, gf⟩ := gcell hg
  have hsz : w.heap.size + 1 < w1.heap.size := by have := hg.2.2; rw [alsz, alsz] at this; omega
  have hE : Ext w w1 := (((Ext.refl _).alloc _ _).alloc _ _).trans (ext_of_grown hg)
  go_wp2_with fail
  exact bodyPost_ret (v := vv ⟨0, 0, []⟩) (by simp [results, Tryz.results143, go_sem, k0, k1, k2]) rfl ⟨ret_vv H.out.symm, by repeat (first | exact hE | exact Ext.refl _ | refine Ext.alloc ?_ _ _ | refine Ext.setNew ?_ _ _ (by simp; try omega) _)⟩
end Go.Proofs.YtbplapkcleipiaaGreatDoor
