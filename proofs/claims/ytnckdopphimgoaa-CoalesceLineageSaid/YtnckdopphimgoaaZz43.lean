/- The laws' builders of periods and tuples. -/
import Derived.Test.YtnckdopphimgoaaZz11
import Derived.Test.YtnckdopphimgoaaZz13
import Derived.Test.YtnckdopphimgoaaZz14
import Derived.Test.YtnckdopphimgoaaZz20
import Derived.Test.YtnckdopphimgoaaZz37
namespace Go.Proofs.Ytnckdopphimgoaa
open Go.ChangeShapes Go.WideShapes Go.ChangeAt Go.RowKit

set_option maxHeartbeats 4000000 in
theorem period_law (x y : Int) (h0 : 0 ≤ x) (_h1 : x ≤ 65535) (k0 : 0 ≤ y) (_k1 : y ≤ 65535) (w : World) : Calls Try.prog 20 #[.int .u16 x, .int .u16 y] w (BpP w) := by
  obtain ⟨f, hf⟩ : ∃ m, m = x % 40 := ⟨_, rfl⟩
  obtain ⟨m, hm⟩ : ∃ m, m = y % 11 := ⟨_, rfl⟩
  obtain ⟨d, hd⟩ : ∃ m, m = y % 15 := ⟨_, rfl⟩
  have hf1 : Int.tmod x 40 = f := by rw [Int.tmod_eq_emod_of_nonneg h0]; exact hf.symm
  have hm1 : Int.tmod y 11 = m := by rw [Int.tmod_eq_emod_of_nonneg k0]; exact hm.symm
  have hd1 : Int.tmod y 15 = d := by rw [Int.tmod_eq_emod_of_nonneg k0]; exact hd.symm
  have hf2 := hf.symm
  have hm2 := hm.symm
  have hd2 := hd.symm
  have hfb : 0 ≤ f ∧ f ≤ 39 := by omega
  have hmb : 0 ≤ m ∧ m ≤ 10 := by omega
  have hdb : 0 ≤ d ∧ d ≤ 14 := by omega
  have wf1 := wrapU f (by omega) (by omega)
  have wm1 := wrapU m (by omega) (by omega)
  have wd1 := wrapU d (by omega) (by omega)
  have wf2 := wrapI f (by omega) (by omega)
  have wd2 := wrapI d (by omega) (by omega)
  have wf3 := wrapI (f + 1) (by omega) (by omega)
  have wf4 := wrapI (f + 1 + d) (by omega) (by omega)
  clear hf hm hd
  by_cases hz : m = 0
  · subst hz
    go_enter Try.func20, Try.ntmps20
    go_wp2_with fail
    all_goals
      exact bodyPost_ret (v := pv f 1000000) (by simp [results, Try.results20, go_sem]) rfl ⟨_, _, rfl, by repeat (first | exact Ext.refl _ | refine Ext.alloc ?_ _ _ | refine Ext.setNew ?_ _ _ (by simp; try omega) _)⟩
  · have hz1 : (m == 0) = false := by simpa using hz
    go_enter Try.func20, Try.ntmps20
    go_wp2_with fail
    all_goals
      exact bodyPost_ret (v := pv f (f + 1 + d)) (by simp [results, Try.results20, go_sem]) rfl ⟨_, _, rfl, by repeat (first | exact Ext.refl _ | refine Ext.alloc ?_ _ _ | refine Ext.setNew ?_ _ _ (by simp; try omega) _)⟩
/-- some tuple, its parts the call's own -/
def BtP (w : World) (e : Ending) (w' : World) : Prop := ∃ (v : Value) (l : List V) (v2 : Value) (l2 : List Int) (a b : Int), e = .returned (.agg #[v, .int .i64 a, .int .i64 b, v2]) ∧ OwnG tV.e w w' v l ∧ OwnG tI.e w w' v2 l2 ∧ l.length = 2 ∧ l2.length = 1 ∧ (∀ v ∈ l, SmV v) ∧ ∀ x ∈ l2, 1 ≤ x ∧ x ≤ 5
end Go.Proofs.Ytnckdopphimgoaa
