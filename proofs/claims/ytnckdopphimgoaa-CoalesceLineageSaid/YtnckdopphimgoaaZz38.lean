/- The laws' values, exactly; the laws' constants. -/
import Derived.Test.YtnckdopphimgoaaZz13
import Derived.Test.YtnckdopphimgoaaZz37
namespace Go.Proofs.Ytnckdopphimgoaa
open Go.ChangeShapes Go.WideShapes Go.ChangeAt Go.RowKit

def txtW (q : Int) : List UInt8 := if q = 0 then [] else if q = 1 then [97] else [98, 39]
/-- law0's Value -/
def valW (col x : Int) : V := if x % 7 = 6 then nul else if col = 0 then ⟨1, x % 3 - 1, []⟩ else ⟨2, 0, txtW (x % 3)⟩
set_option maxHeartbeats 4000000 in
theorem valx0 (x : Int) (h0 : 0 ≤ x) (_h1 : x ≤ 65535) (w : World) : Calls Try.prog 21 #[.int .i64 0, .int .u16 x] w (fun e w' => e = .returned (vv (valW 0 x)) ∧ Ext w w') := by
  obtain ⟨m, hm⟩ : ∃ m, m = x % 7 := ⟨_, rfl⟩
  obtain ⟨q, hq⟩ : ∃ q, q = x % 3 := ⟨_, rfl⟩
  have hm1 : Int.tmod x 7 = m := by rw [Int.tmod_eq_emod_of_nonneg h0]; exact hm.symm
  have hq1 : Int.tmod x 3 = q := by rw [Int.tmod_eq_emod_of_nonneg h0]; exact hq.symm
  have hm2 := hm.symm
  have hq2 := hq.symm
  have hmb : 0 ≤ m ∧ m ≤ 6 := by omega
  have hqb : 0 ≤ q ∧ q ≤ 2 := by omega
  have hwm := wrapU m (by omega) (by omega)
  have hwq := wrapU q (by omega) (by omega)
  have hwi := wrapI q (by omega) (by omega)
  clear hm hq
  by_cases h6 : m = 6
  · subst h6
    have HVW := Lib.hid (show valW 0 x = ⟨0, 0, []⟩ by unfold valW; rw [if_pos hm2]; rfl)
    go_enter Try.func21, Try.ntmps21
    go_wp2_with fail
    exact bodyPost_ret (v := vv ⟨0, 0, []⟩) (by simp [results, Try.results21, go_sem, vv]) rfl ⟨by rw [HVW.out], by repeat (first | exact Ext.refl _ | refine Ext.alloc ?_ _ _ | refine Ext.setNew ?_ _ _ (by simp; try omega) _)⟩
  · have HVW := Lib.hid (show valW 0 x = ⟨1, q - 1, []⟩ by unfold valW; rw [if_neg (by rw [hm2]; exact h6), if_pos rfl, hq2])
    have h6' : (m == 6) = false := by simpa using h6
    go_enter Try.func21, Try.ntmps21
    go_wp2_with fail
    refine (int_val (q - 1) _).mono ?_; rintro e w1 ⟨rfl, hE⟩
    have k0 := hE.keeps (al_c w #[.int .i64 0, .int .i64 0, .string { data := #[] }] 42 0 _ rfl)
    have k1 := hE.keeps (al_c w #[.int .i64 0, .int .i64 0, .string { data := #[] }] 42 1 _ rfl)
    have k2 := hE.keeps (al_c w #[.int .i64 0, .int .i64 0, .string { data := #[] }] 42 2 _ rfl)
    have kf : ∀ j, w1.frozen? ⟨w.heap.size, j, none⟩ = false := fun j => (hE.2.1 ⟨w.heap.size, j, none⟩ (by simp)).trans (by simp [World.frozen?_alloc_at])
    have kf0 := kf 0
    have kf1 := kf 1
    have kf2 := kf 2
    have hsz : w.heap.size < w1.heap.size := World.block_lt_of_cell? _ _ k0
    have hE9 : Ext w w1 := ((Ext.refl _).alloc _ _).trans hE
    clear hE kf
    go_wp2_with fail
    exact bodyPost_ret (v := vv ⟨1, q - 1, []⟩) (by simp [results, Try.results21, go_sem, k0, k1, k2]) rfl ⟨by rw [HVW.out], by repeat (first | exact hE9 | exact Ext.refl _ | refine Ext.alloc ?_ _ _ | refine Ext.setNew ?_ _ _ (by simp; try omega) _)⟩
set_option maxHeartbeats 4000000 in
theorem valx1 (x : Int) (h0 : 0 ≤ x) (_h1 : x ≤ 65535) (w : World) : Calls Try.prog 21 #[.int .i64 1, .int .u16 x] w (fun e w' => e = .returned (vv (valW 1 x)) ∧ Ext w w') := by
  obtain ⟨m, hm⟩ : ∃ m, m = x % 7 := ⟨_, rfl⟩
  obtain ⟨q, hq⟩ : ∃ q, q = x % 3 := ⟨_, rfl⟩
  have hm1 : Int.tmod x 7 = m := by rw [Int.tmod_eq_emod_of_nonneg h0]; exact hm.symm
  have hq1 : Int.tmod x 3 = q := by rw [Int.tmod_eq_emod_of_nonneg h0]; exact hq.symm
  have hm2 := hm.symm
  have hq2 := hq.symm
  have hmb : 0 ≤ m ∧ m ≤ 6 := by omega
  have hqb : 0 ≤ q ∧ q ≤ 2 := by omega
  have hwm := wrapU m (by omega) (by omega)
  have hwq := wrapU q (by omega) (by omega)
  have hwi := wrapI q (by omega) (by omega)
  clear hm hq
  by_cases h6 : m = 6
  · subst h6
    have HVW := Lib.hid (show valW 1 x = ⟨0, 0, []⟩ by unfold valW; rw [if_pos hm2]; rfl)
    go_enter Try.func21, Try.ntmps21
    go_wp2_with fail
    exact bodyPost_ret (v := vv ⟨0, 0, []⟩) (by simp [results, Try.results21, go_sem, vv]) rfl ⟨by rw [HVW.out], by repeat (first | exact Ext.refl _ | refine Ext.alloc ?_ _ _ | refine Ext.setNew ?_ _ _ (by simp; try omega) _)⟩
  · have hvw : valW 1 x = ⟨2, 0, txtW q⟩ := by unfold valW; rw [if_neg (by rw [hm2]; exact h6), if_neg (by decide), hq2]
    have h6' : (m == 6) = false := by simpa using h6
    rcases (show q = 0 ∨ q = 1 ∨ q = 2 by omega) with rfl | rfl | rfl
    · have HVW := Lib.hid (show valW 1 x = ⟨2, 0, []⟩ from hvw)
      clear hvw
      go_enter Try.func21, Try.ntmps21
      go_wp2_with fail
      exact bodyPost_ret (v := vv ⟨2, 0, []⟩) (by simp [results, Try.results21, go_sem, vv]) rfl ⟨by rw [HVW.out], by repeat (first | exact Ext.refl _ | refine Ext.alloc ?_ _ _ | refine Ext.setNew ?_ _ _ (by simp; try omega) _)⟩
    · have HVW := Lib.hid (show valW 1 x = ⟨2, 0, [97]⟩ from hvw)
      clear hvw
      go_enter Try.func21, Try.ntmps21
      go_wp2_with fail
      exact bodyPost_ret (v := vv ⟨2, 0, [97]⟩) (by simp [results, Try.results21, go_sem, vv]) rfl ⟨by rw [HVW.out], by repeat (first | exact Ext.refl _ | refine Ext.alloc ?_ _ _ | refine Ext.setNew ?_ _ _ (by simp; try omega) _)⟩
    · have HVW := Lib.hid (show valW 1 x = ⟨2, 0, [98, 39]⟩ from hvw)
      clear hvw
      go_enter Try.func21, Try.ntmps21
      go_wp2_with fail
      exact bodyPost_ret (v := vv ⟨2, 0, [98, 39]⟩) (by simp [results, Try.results21, go_sem, vv]) rfl ⟨by rw [HVW.out], by repeat (first | exact Ext.refl _ | refine Ext.alloc ?_ _ _ | refine Ext.setNew ?_ _ _ (by simp; try omega) _)⟩
end Go.Proofs.Ytnckdopphimgoaa
/- law0's Vals. -/
namespace Go.Proofs.Ytnckdopphimgoaa
open Go.ChangeShapes Go.WideShapes Go.ChangeAt Go.RowKit

def valsL (x y : Int) : List V := [valW 0 x, valW 1 y]
set_option maxHeartbeats 2000000 in
theorem valsx (x y : Int) (hx0 : 0 ≤ x) (hx1 : x ≤ 65535) (hy0 : 0 ≤ y) (hy1 : y ≤ 65535) (w : World) : Calls Try.prog 13 #[.int .u16 x, .int .u16 y] w fun e w' => ∃ v, e = .returned v ∧ OwnG tV.e w w' v (valsL x y) := by
  have H0 := Lib.hid (valx0 x hx0 hx1)
  have H1 := Lib.hid (valx1 y hy0 hy1)
  have HL := Lib.hid (show valsL x y = [valW 0 x, valW 1 y] from rfl)
  generalize valW 0 x = a at *
  generalize valW 1 y = b at *
  obtain ⟨ak, an, az⟩ := a
  obtain ⟨bk, bn, bz⟩ := b
  clear hx0 hx1 hy0 hy1
  generalize valsL x y = l at *
  go_enter Try.func13, Try.ntmps13
  go_wp2_with fail
  refine (H0.out _).mono ?_; rintro e w1 ⟨rfl, hE⟩
  go_wp2_with fail
  refine (H1.out _).mono ?_; rintro e w2 ⟨rfl, hE2⟩
  have hE3 := hE.trans hE2
  go_wp2_with fail
  go_ret
  exact ⟨_, rfl, by rw [HL.out]; exact own_litB _ hE3 [(⟨ak, an, az⟩ : V), ⟨bk, bn, bz⟩] _ _ _ rfl rfl (by simp) rfl⟩
end Go.Proofs.Ytnckdopphimgoaa
