/- The laws' builders of values, periods and rows of two values. -/
import Derived.Test.YtnckdopphimgoaaZz06
import Derived.Test.YtnckdopphimgoaaZz11
import Derived.Test.YtnckdopphimgoaaZz13
import Derived.Test.YtnckdopphimgoaaZz18
import Derived.Test.YtnckdopphimgoaaZz36
namespace Go.Proofs.Ytnckdopphimgoaa
open Go.ChangeShapes Go.WideShapes Go.ChangeAt Go.RowKit

/-- some value -/
def SmV (v : V) : Prop := (0 ≤ v.k ∧ v.k ≤ 2) ∧ (-1 ≤ v.n ∧ v.n ≤ 1) ∧ v.s.length ≤ 2
def BvP (w : World) (e : Ending) (w' : World) : Prop := ∃ v, e = .returned (vv v) ∧ SmV v ∧ Ext w w'
theorem wrapU (m : Int) (h0 : 0 ≤ m) (h1 : m ≤ 65535) : IntKind.u16.wrap m = m := by simp only [IntKind.wrap, IntKind.bits, IntKind.signed]; simp; omega
theorem wrapI (m : Int) (h0 : -9223372036854775808 ≤ m) (h1 : m ≤ 9223372036854775807) : IntKind.i64.wrap m = m := by simp only [IntKind.wrap, IntKind.bits, IntKind.signed]; simp; omega
set_option maxHeartbeats 4000000 in
theorem value0 (x : Int) (h0 : 0 ≤ x) (_h1 : x ≤ 65535) (w : World) : Calls Try.prog 21 #[.int .i64 0, .int .u16 x] w (BvP w) := by
  obtain ⟨m, hm⟩ : ∃ m, m = x % 7 := ⟨_, rfl⟩
  obtain ⟨q, hq⟩ : ∃ q, q = x % 3 := ⟨_, rfl⟩
  have hm1 : Int.tmod x 7 = m := by rw [Int.tmod_eq_emod_of_nonneg h0]; exact hm.symm
  have hq1 : Int.tmod x 3 = q := by rw [Int.tmod_eq_emod_of_nonneg h0]; exact hq.symm
  have hm2 := hm.symm
  have hq2 := hq.symm
  have hmb : 0 ≤ m ∧ m ≤ 6 := by omega
  have hqb : 0 ≤ q ∧ q ≤ 2 := by omega
  have hwm := wrapU m (by omega) (by omega)
  have hwq := wrapU q (by omega) (by omega)
  have hwi := wrapI q (by omega) (by omega)
  clear hm hq
  by_cases h6 : m = 6
  · subst h6
    go_enter Try.func21, Try.ntmps21
    go_wp2_with fail
    exact bodyPost_ret (v := vv ⟨0, 0, []⟩) (by simp [results, Try.results21, go_sem, vv]) rfl ⟨_, rfl, by (refine ⟨⟨?_, ?_⟩, ⟨?_, ?_⟩, ?_⟩ <;> simp <;> omega), by repeat (first | exact Ext.refl _ | refine Ext.alloc ?_ _ _ | refine Ext.setNew ?_ _ _ (by simp; try omega) _)⟩
  · have h6' : (m == 6) = false := by simpa using h6
    go_enter Try.func21, Try.ntmps21
    go_wp2_with fail
    refine (int_val (q - 1) _).mono ?_; rintro e w1 ⟨rfl, hE⟩
    have k0 := hE.keeps (al_c w #[.int .i64 0, .int .i64 0, .string { data := #[] }] 42 0 _ rfl)
    have k1 := hE.keeps (al_c w #[.int .i64 0, .int .i64 0, .string { data := #[] }] 42 1 _ rfl)
    have k2 := hE.keeps (al_c w #[.int .i64 0, .int .i64 0, .string { data := #[] }] 42 2 _ rfl)
    have kf : ∀ j, w1.frozen? ⟨w.heap.size, j, none⟩ = false := fun j => (hE.2.1 ⟨w.heap.size, j, none⟩ (by simp)).trans (by simp [World.frozen?_alloc_at])
    have kf0 := kf 0
    have kf1 := kf 1
    have kf2 := kf 2
    have hsz : w.heap.size < w1.heap.size := World.block_lt_of_cell? _ _ k0
    have hE9 : Ext w w1 := ((Ext.refl _).alloc _ _).trans hE
    clear hE kf
    go_wp2_with fail
    exact bodyPost_ret (v := vv ⟨1, q - 1, []⟩) (by simp [results, Try.results21, go_sem, k0, k1, k2]) rfl ⟨_, rfl, by (refine ⟨⟨?_, ?_⟩, ⟨?_, ?_⟩, ?_⟩ <;> simp <;> omega), by repeat (first | exact hE9 | exact Ext.refl _ | refine Ext.alloc ?_ _ _ | refine Ext.setNew ?_ _ _ (by simp; try omega) _)⟩
set_option maxHeartbeats 4000000 in
theorem value1 (x : Int) (h0 : 0 ≤ x) (_h1 : x ≤ 65535) (w : World) : Calls Try.prog 21 #[.int .i64 1, .int .u16 x] w (BvP w) := by
  obtain ⟨m, hm⟩ : ∃ m, m = x % 7 := ⟨_, rfl⟩
  obtain ⟨q, hq⟩ : ∃ q, q = x % 3 := ⟨_, rfl⟩
  have hm1 : Int.tmod x 7 = m := by rw [Int.tmod_eq_emod_of_nonneg h0]; exact hm.symm
  have hq1 : Int.tmod x 3 = q := by rw [Int.tmod_eq_emod_of_nonneg h0]; exact hq.symm
  have hm2 := hm.symm
  have hq2 := hq.symm
  have hmb : 0 ≤ m ∧ m ≤ 6 := by omega
  have hqb : 0 ≤ q ∧ q ≤ 2 := by omega
  have hwm := wrapU m (by omega) (by omega)
  have hwq := wrapU q (by omega) (by omega)
  have hwi := wrapI q (by omega) (by omega)
  clear hm hq
  by_cases h6 : m = 6
  · subst h6
    go_enter Try.func21, Try.ntmps21
    go_wp2_with fail
    exact bodyPost_ret (v := vv ⟨0, 0, []⟩) (by simp [results, Try.results21, go_sem, vv]) rfl ⟨_, rfl, by (refine ⟨⟨?_, ?_⟩, ⟨?_, ?_⟩, ?_⟩ <;> simp <;> omega), by repeat (first | exact Ext.refl _ | refine Ext.alloc ?_ _ _ | refine Ext.setNew ?_ _ _ (by simp; try omega) _)⟩
  · have h6' : (m == 6) = false := by simpa using h6
    rcases (show q = 0 ∨ q = 1 ∨ q = 2 by omega) with rfl | rfl | rfl
    · go_enter Try.func21, Try.ntmps21
      go_wp2_with fail
      exact bodyPost_ret (v := vv ⟨2, 0, []⟩) (by simp [results, Try.results21, go_sem, vv]) rfl ⟨_, rfl, by (refine ⟨⟨?_, ?_⟩, ⟨?_, ?_⟩, ?_⟩ <;> simp <;> omega), by repeat (first | exact Ext.refl _ | refine Ext.alloc ?_ _ _ | refine Ext.setNew ?_ _ _ (by simp; try omega) _)⟩
    · go_enter Try.func21, Try.ntmps21
      go_wp2_with fail
      exact bodyPost_ret (v := vv ⟨2, 0, [97]⟩) (by simp [results, Try.results21, go_sem, vv]) rfl ⟨_, rfl, by (refine ⟨⟨?_, ?_⟩, ⟨?_, ?_⟩, ?_⟩ <;> simp <;> omega), by repeat (first | exact Ext.refl _ | refine Ext.alloc ?_ _ _ | refine Ext.setNew ?_ _ _ (by simp; try omega) _)⟩
    · go_enter Try.func21, Try.ntmps21
      go_wp2_with fail
      exact bodyPost_ret (v := vv ⟨2, 0, [98, 39]⟩) (by simp [results, Try.results21, go_sem, vv]) rfl ⟨_, rfl, by (refine ⟨⟨?_, ?_⟩, ⟨?_, ?_⟩, ?_⟩ <;> simp <;> omega), by repeat (first | exact Ext.refl _ | refine Ext.alloc ?_ _ _ | refine Ext.setNew ?_ _ _ (by simp; try omega) _)⟩
/-- some values of the call's own -/
def BwP (w : World) (e : Ending) (w' : World) : Prop := ∃ (v : Value) (l : List V), e = .returned v ∧ OwnG tV.e w w' v l ∧ l.length = 2 ∧ ∀ v ∈ l, SmV v
set_option maxHeartbeats 4000000 in
theorem vals_law (x y : Int) (hx0 : 0 ≤ x) (hx1 : x ≤ 65535) (hy0 : 0 ≤ y) (hy1 : y ≤ 65535) (w : World) : Calls Try.prog 13 #[.int .u16 x, .int .u16 y] w (BwP w) := by
  have H0 := Lib.hid (fun w => value0 x hx0 hx1 w)
  have H1 := Lib.hid (fun w => value1 y hy0 hy1 w)
  go_enter Try.func13, Try.ntmps13
  go_wp2_with fail
  refine (H0.out _).mono ?_; rintro e w1 ⟨⟨ak, an, az⟩, rfl, sm1, hE⟩
  go_wp2_with fail
  refine (H1.out _).mono ?_; rintro e w2 ⟨⟨bk, bn, bz⟩, rfl, sm2, hE2⟩
  have hE3 := hE.trans hE2
  have SM1 := Lib.hid sm1
  have SM2 := Lib.hid sm2
  clear sm1 sm2
  go_wp2_with fail
  go_ret
  exact ⟨_, [⟨ak, an, az⟩, ⟨bk, bn, bz⟩], rfl, own_litB _ hE3 _ _ _ _ rfl rfl (by simp) rfl, rfl, fun v hv => by simp only [List.mem_cons, List.not_mem_nil, or_false] at hv; rcases hv with rfl | rfl; exact SM1.out; exact SM2.out⟩
/-- some period -/
def BpP (w : World) (e : Ending) (w' : World) : Prop := ∃ a b, e = .returned (pv a b) ∧ Ext w w'
end Go.Proofs.Ytnckdopphimgoaa
