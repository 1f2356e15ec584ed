/- The walks of the laws GranuleIndex, GranuleSpan, GranuleCovering, GranuleMonotone, GranulePartition: each returns true at every input. -/
import Derived.Test.YtjphkgnngkbgcaaDoorGl2
namespace Go.Proofs.YtjphkgnngkbgcaaDoor
open Go.ChangeShapes Go.WideShapes Go.ChangeAt Go.RowKit

set_option maxHeartbeats 4000000 in
theorem law_GranuleIndex (k s n : Int) (w : World) (hT : Tab w) :
    Calls Tryd.prog 3 #[gv k s, .int .i64 n] w fun e w' => e = .returned (.bool true) ∧ Grown w w' := by
  have HT := Lib.hid (hT.alloc #[.int .i64 k, .int .i64 s] 23)
  clear hT
  go_enter Tryd.func3, Tryd.ntmps3
  go_wp2_with fail
  refine (idx_gra _ _ _ _ HT.out).mono ?_; rintro e w1 ⟨rfl, hg⟩
  obtain ⟨hc, hf⟩ := gcell hg
  have hz : w.heap.size < w1.heap.size := by have := hg.2.2; simp at this; omega
  have HT1 := Lib.hid (HT.out.grown hg)
  go_wp2_with fail
  refine (idx_ref _ _ _ _).mono ?_; rintro e w2 ⟨rfl, hg2⟩
  have HTd := Lib.hid (show Tab w2.drew from HT1.out.grown hg2.drew)
  have hz2 : w.heap.size < w2.heap.size := by have := hg2.2.2; omega
  have hG2 : Grown w w2 := grown_trans (grown_trans ((Grown.refl _).alloc _ _) hg) hg2
  have k0 : w2.cell? ⟨w.heap.size, 0, none⟩ = some (.int .i64 k) := kept hg2 (kept hg (al0 _ _ _ _))
  have k1 : w2.cell? ⟨w.heap.size, 1, none⟩ = some (.int .i64 s) := kept hg2 (kept hg (al1 _ _ _ _))
  clear hc hf hg hg2
  go_wp2_with fail
  go_region_held3 (fun w' => w'.cell? ⟨w.heap.size, 0, none⟩ = some (.int .i64 k) ∧ w'.cell? ⟨w.heap.size, 1, none⟩ = some (.int .i64 s)) (go_keep)
    (first
      | (go_at_call 13; refine (heldW w2 (awake_law w2.drew HTd.out) (Grown.refl w2).drew).mono ?_; rintro e w3 ⟨rfl, q0, q1, qG⟩)
      | (go_at_call 14; refine (heldW w2 (valid_gra _ _ _) ?_).mono ?_; assumption; rintro e w3 ⟨rfl, q0, q1, qG⟩)
      | (go_at_call 15; refine (heldW w2 (valid_ref _ _ _) ?_).mono ?_; assumption; rintro e w3 ⟨rfl, q0, q1, qG⟩))
  go_wp2_with fail
  go_ret
  exact ⟨ret_bool (by simp), grown_trans hG2 qG⟩

set_option maxHeartbeats 4000000 in
theorem law_GranuleSpan (k s i : Int) (w : World) (hT : Tab w) :
    Calls Tryd.prog 4 #[gv k s, .int .i64 i] w fun e w' => e = .returned (.bool true) ∧ Grown w w' := by
  have HT := Lib.hid (hT.alloc #[.int .i64 k, .int .i64 s] 23)
  clear hT
  go_enter Tryd.func4, Tryd.ntmps4
  go_wp2_with fail
  refine (span_gra _ _ _ _ HT.out).mono ?_; rintro e w1 ⟨rfl, hg⟩
  obtain ⟨hc, hf⟩ := gcell hg
  have hz : w.heap.size < w1.heap.size := by have := hg.2.2; simp at this; omega
  have HT1 := Lib.hid ((HT.out.grown hg).alloc #[.int .i64 (spF k s i), .int .i64 (spT k s i)] 30)
  go_wp2_with fail
  refine (span_ref _ _ _ _).mono ?_; rintro e w2 ⟨rfl, hg2⟩
  obtain ⟨hc2, hf2⟩ := gcell hg2
  have hz2 : w1.heap.size < w2.heap.size := by have := hg2.2.2; simp at this; omega
  have HT2 := Lib.hid ((HT1.out.grown hg2).alloc #[.int .i64 (spF k s i), .int .i64 (spT k s i)] 30)
  go_wp2_with fail
  refine (awake_law _ HT2.out).mono ?_; rintro e w3 ⟨rfl, hg3⟩
  obtain ⟨hc3, hf3⟩ := gcell hg3
  obtain ⟨hz3, hz4⟩ : w1.heap.size < w3.heap.size ∧ w2.heap.size < w3.heap.size := by have := hg3.2.2; simp at this; omega
  go_wp2_with fail
  go_ret
  exact ⟨ret_bool (by simp), grown_trans ((grown_trans ((grown_trans ((Grown.refl _).alloc _ _) hg).alloc _ _) hg2).alloc _ _) hg3⟩

set_option maxHeartbeats 4000000 in
theorem law_GranuleCovering (k s i h t : Int) (w : World) (hT : Tab w) :
    Calls Tryd.prog 8 #[gv k s, .int .i64 i, gv h t] w fun e w' => e = .returned (.bool true) ∧ Grown w w' := by
  have HT := Lib.hid ((hT.alloc #[.int .i64 k, .int .i64 s] 23).alloc #[.int .i64 h, .int .i64 t] 23)
  clear hT
  go_enter Tryd.func8, Tryd.ntmps8
  go_wp2_with fail
  refine (cov_gra _ _ _ _ _ _ HT.out).mono ?_; rintro e w1 ⟨rfl, hg⟩
  obtain ⟨hc, hf⟩ := gcell hg
  have HT1 := Lib.hid (HT.out.grown hg)
  go_wp2_with fail
  refine (cov_ref _ _ _ _ _ _).mono ?_; rintro e w2 ⟨rfl, hg2⟩
  have HT2 := Lib.hid (HT1.out.grown hg2)
  go_wp2_with fail
  refine (awake_law _ HT2.out).mono ?_; rintro e w3 ⟨rfl, hg3⟩
  go_wp2_with fail
  go_ret
  exact ⟨ret_bool (by simp), grown_trans (grown_trans (grown_trans (((Grown.refl _).alloc _ _).alloc _ _) hg) hg2) hg3⟩
end Go.Proofs.YtjphkgnngkbgcaaDoor
