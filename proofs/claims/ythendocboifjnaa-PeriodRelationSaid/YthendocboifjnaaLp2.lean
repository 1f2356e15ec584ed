/- The walk of the law PeriodRelation: it returns true at every input. -/
import Derived.Test.YthendocboifjnaaCm4
import Derived.Deep.RegionHeld3
namespace Go.Proofs.Ythendocboifjnaa
open Go.ChangeShapes Go.WideShapes Go.ChangeAt Go.RowKit

set_option maxHeartbeats 8000000 in
theorem law_PeriodRelation (a b c d t r : Int) (w : World) : Calls Try.prog 3 #[pv a b, pv c d, .int .i64 t, .int .i64 r] w fun e w' => e = .returned (.bool true) ∧ Ext w w' := by
  go_enter Try.func3, Try.ntmps3
  go_wp2_with fail
  have hE0 : Ext w ((w.alloc (.cells #[.int .i64 a, .int .i64 b] 23)).alloc (.cells #[.int .i64 c, .int .i64 d] 23)) := ((Ext.refl _).alloc _ _).alloc _ _
  obtain ⟨k0, k1, k2, k3⟩ := boxes (Grown.refl ((w.alloc (.cells #[.int .i64 a, .int .i64 b] 23)).alloc (.cells #[.int .i64 c, .int .i64 d] 23))) (Grown.refl _)
  have hz : w.heap.size < ((w.alloc (.cells #[.int .i64 a, .int .i64 b] 23)).alloc (.cells #[.int .i64 c, .int .i64 d] 23)).heap.size := World.block_lt_of_cell? _ _ k0
  have hz' : w.heap.size + 1 < ((w.alloc (.cells #[.int .i64 a, .int .i64 b] 23)).alloc (.cells #[.int .i64 c, .int .i64 d] 23)).heap.size := World.block_lt_of_cell? _ _ k2
  generalize (w.alloc (.cells #[.int .i64 a, .int .i64 b] 23)).alloc (.cells #[.int .i64 c, .int .i64 d] 23) = W0 at hE0 k0 k1 k2 k3 hz hz' ⊢
  go_region_held3 (fun w' => w'.cell? ⟨w.heap.size, 0, none⟩ = some (.int .i64 a) ∧ w'.cell? ⟨w.heap.size, 1, none⟩ = some (.int .i64 b) ∧ w'.cell? ⟨w.heap.size + 1, 0, none⟩ = some (.int .i64 c) ∧ w'.cell? ⟨w.heap.size + 1, 1, none⟩ = some (.int .i64 d)) (go_keep)
    (first
      | (go_at_call 10; refine (heldE W0 (awake_law W0.drew) (Ext.refl W0).drew).mono ?_; rintro e w3 ⟨rfl, q0, qG⟩)
      | (go_at_call 11; refine (heldE W0 (gE (vp_per _ _ _)) ?_).mono ?_; assumption; rintro e w3 ⟨rfl, q0, qG⟩)
      | (go_at_call 12; refine (heldE W0 (gE (vp_ref _ _ _)) ?_).mono ?_; assumption; rintro e w3 ⟨rfl, q0, qG⟩)
      | (go_at_call 13; refine (heldE W0 (gE (vd_per _ _ _)) ?_).mono ?_; assumption; rintro e w3 ⟨rfl, q0, qG⟩)
      | (go_at_call 14; refine (heldE W0 (gE (vd_ref _ _ _)) ?_).mono ?_; assumption; rintro e w3 ⟨rfl, q0, qG⟩)
      | (go_at_call 15; refine (heldE W0 (gE (inc_per _ _ _ _)) ?_).mono ?_; assumption; rintro e w3 ⟨rfl, q0, qG⟩)
      | (go_at_call 16; refine (heldE W0 (gE (inc_ref _ _ _ _)) ?_).mono ?_; assumption; rintro e w3 ⟨rfl, q0, qG⟩)
      | (go_at_call 17; refine (heldE W0 (gE (rel_per _ _ _ _ _)) ?_).mono ?_; assumption; rintro e w3 ⟨rfl, q0, qG⟩)
      | (go_at_call 18; refine (heldE W0 (gE (rel_ref _ _ _ _ _)) ?_).mono ?_; assumption; rintro e w3 ⟨rfl, q0, qG⟩)
      | (go_at_call 19; refine (heldE W0 (sE (inv_per _ _)) ?_).mono ?_; assumption; rintro e w3 ⟨rfl, q0, qG⟩)
      | (go_at_call 20; refine (heldE W0 (sE (inv_ref _ _)) ?_).mono ?_; assumption; rintro e w3 ⟨rfl, q0, qG⟩))
  go_wp2_with fail
  go_ret
  exact ⟨ret_bool (by simp), hE0.trans qG⟩
end Go.Proofs.Ythendocboifjnaa
