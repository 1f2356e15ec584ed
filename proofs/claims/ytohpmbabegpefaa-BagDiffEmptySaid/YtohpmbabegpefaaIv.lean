/- The laws' IntValue. -/
import Derived.Test.YtohpmbabegpefaaVwC
namespace Go.Proofs.Ytohpmbabegpefaa
open Go.ChangeShapes Go.WideShapes Go.ChangeAt Go.RowKit

set_option maxHeartbeats 1000000 in
theorem int_val (z : Int) (w : World) : Calls Try.prog 89 #[.int .i64 z] w fun e w' => e = .returned (vv ⟨1, z, []⟩) ∧ Ext w w' := by
  go_enter Try.func89, Try.ntmps89
  go_wp2_with fail
  exact bodyPost_ret (v := vv ⟨1, z, []⟩) (by simp [results, Try.results89, go_sem, vv]) rfl ⟨rfl, by repeat (first | exact Ext.refl _ | refine Ext.alloc ?_ _ _ | refine Ext.setNew ?_ _ _ (by simp; try omega) _)⟩
end Go.Proofs.Ytohpmbabegpefaa
