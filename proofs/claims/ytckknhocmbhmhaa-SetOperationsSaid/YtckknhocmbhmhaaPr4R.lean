/- The contract of the reference's Subtract. -/
import Derived.Test.YtckknhocmbhmhaaPr3
import Derived.Laws.OwnMore
namespace Go.Proofs.Ytckknhocmbhmhaa
open Go.ChangeShapes Go.WideShapes Go.ChangeAt Go.RowKit

/-- what is left of [a, b), where [x, y) is its part in the other period -/
def leftL (a b x y : Int) : List (Int × Int) := (if a < x then [(a, x)] else []) ++ (if y < b then [(y, b)] else [])
def subL (a b c d : Int) : List (Int × Int) := if okV a b = true then (if itB a b c d = true then leftL a b (itF a b c d) (itT a b c d) else [(a, b)]) else []
theorem news1' (Y : World) (x y : Value) (t : TypeId) : ∀ j u, [x, y][j]? = some u → (Y.alloc (.cells #[x, y] t)).cell? ((⟨Y.heap.size, 0, none⟩ : Addr).add j) = some u := news2 Y x y t _ rfl
theorem lit_owns (w : World) (x y : Int) (t : TypeId) : (w.alloc (.cells #[.int .i64 x, .int .i64 y] t)).ownsRow 0 t 2 (.slice (some ⟨w.heap.size, 0, none⟩) 1 1) 1 (cellsL [(x, y)]) :=
  World.ownsRow_lit w _ 1 (Nat.zero_le _) (by unfold maxLen; omega) rfl
theorem pis_at_no (a b c d : Int) (w : World) (h : itB a b c d = false) : Calls Try.prog 40 #[pv a b, pv c d] w fun e w' => e = .returned (.tuple #[pv 0 0, .bool false]) ∧ Grown w w' := by
  have := is_per a b c d w; rwa [h, (it_no h).1, (it_no h).2] at this
theorem pis_at_yes (a b c d x y : Int) (w : World) (h : itB a b c d = true) (hx : itF a b c d = x) (hy : itT a b c d = y) : Calls Try.prog 40 #[pv a b, pv c d] w fun e w' => e = .returned (.tuple #[pv x y, .bool true]) ∧ Grown w w' := by
  have := is_per a b c d w; rwa [h, hx, hy] at this
theorem ris_at_no (a b c d : Int) (w : World) (h : itB a b c d = false) : Calls Try.prog 33 #[pv a b, pv c d] w fun e w' => e = .returned (.tuple #[pv 0 0, .bool false]) ∧ Grown w w' := by
  have := is_ref a b c d w; rwa [h, (it_no h).1, (it_no h).2] at this
theorem ris_at_yes (a b c d x y : Int) (w : World) (h : itB a b c d = true) (hx : itF a b c d = x) (hy : itT a b c d = y) : Calls Try.prog 33 #[pv a b, pv c d] w fun e w' => e = .returned (.tuple #[pv x y, .bool true]) ∧ Grown w w' := by
  have := is_ref a b c d w; rwa [h, hx, hy] at this
set_option maxHeartbeats 4000000 in
theorem rsub_bad (a b c d : Int) (w : World) (h : okV a b = false) : Calls Try.prog 35 #[pv a b, pv c d] w (SplitPost [] w) := by
  have HV := Lib.hid h
  clear h
  go_enter Try.func35, Try.ntmps35
  go_wp2_with fail
  refine (vp_no _ _ _ HV.out).mono ?_; rintro e w1 ⟨rfl, hg⟩
  go_wp2_with fail
  go_ret
  exact ⟨_, rfl, World.ownsRow_nil _ _ _ _, (((Ext.refl _).alloc _ _).alloc _ _).trans (ext_of_grown hg)⟩
set_option maxHeartbeats 4000000 in
theorem rsub_all (a b c d : Int) (w : World) (h : okV a b = true) (k : itB a b c d = false) : Calls Try.prog 35 #[pv a b, pv c d] w (SplitPost [(a, b)] w) := by
  have HV := Lib.hid h
  have HI := Lib.hid k
  clear h k
  go_enter Try.func35, Try.ntmps35
  go_wp2_with fail
  refine (vp_yes _ _ _ HV.out).mono ?_; rintro e w1 ⟨rfl, hg⟩
  obtain ⟨k0, k1, k2, k3⟩ := boxes hg (Grown.refl _)
  go_wp2_with fail
  refine (ris_at_no _ _ _ _ _ HI.out).mono ?_; rintro e w2 ⟨rfl, hg2⟩
  have hE : Ext w w2 := ((((Ext.refl _).alloc _ _).alloc _ _).trans (ext_of_grown hg)).trans (ext_of_grown hg2)
  have m0 := kept hg2 k0
  have m1 := kept hg2 k1
  have hz : w.heap.size < w2.heap.size := World.block_lt_of_cell? _ _ m0
  clear k0 k1 k2 k3 hg hg2
  go_wp2_with fail
  go_ret
  exact ⟨_, rfl, by have := lit_owns (w2.alloc (.cells #[.int .i64 0, .int .i64 0] 30)) a b 30; rwa [alsz] at this, (hE.alloc _ _).alloc _ _⟩
set_option maxHeartbeats 4000000 in
theorem rsub0 (a b c d x y : Int) (w : World) (h : okV a b = true) (k : itB a b c d = true) (hx : itF a b c d = x) (hy : itT a b c d = y) (hl : a < x) (hr : y < b) : Calls Try.prog 35 #[pv a b, pv c d] w (SplitPost [(a, x), (y, b)] w) := by
  obtain ⟨i0, hi, hz0, hz1, hz2⟩ := info_parts infoP
  have HV := Lib.hid h
  have HI := Lib.hid k
  have HX := Lib.hid hx
  have HY := Lib.hid hy
  clear h k hx hy
  go_enter Try.func35, Try.ntmps35
  go_wp2_with fail
  refine (vp_yes _ _ _ HV.out).mono ?_; rintro e w1 ⟨rfl, hg⟩
  obtain ⟨k0, k1, k2, k3⟩ := boxes hg (Grown.refl _)
  go_wp2_with fail
  refine (ris_at_yes _ _ _ _ _ _ _ HI.out HX.out HY.out).mono ?_; rintro e w2 ⟨rfl, hg2⟩
  have hE : Ext w w2 := ((((Ext.refl _).alloc _ _).alloc _ _).trans (ext_of_grown hg)).trans (ext_of_grown hg2)
  have m0 := kept hg2 k0
  have m1 := kept hg2 k1
  have hz : w.heap.size < w2.heap.size := World.block_lt_of_cell? _ _ m0
  clear k0 k1 k2 k3 hg hg2
  go_wp2_with (first | (at_builtin; refine wpList_append_own _ rfl _ _ 22 rfl w.heap.size 30 i0 (.agg #[.int .i64 0, .int .i64 0]) 2 16 Try.underlying22 hi hz0 hz1 hz2 rfl (by decide) _ _ _ rfl (World.ownsRow_nil _ w.heap.size 30 2) ⟨w2.heap.size + 1, 0, none⟩ 1 1 [.int .i64 a, .int .i64 x] rfl rfl (news2 _ _ _ _ _ (alsz w2 _)) (one2 _ _) (by unfold maxLen; omega) (by omega) (by simp; omega) ?_; intro v6 w6 hown6 hgrow6 hnil6; have hE6 : Ext w w6 := ext_grownBy ((hE.alloc _ _).alloc _ _) hgrow6 (fun kk h => by cases h); have r0 := grow_cell hgrow6 (kept ((Grown.refl _).alloc _ _) (kept ((Grown.refl _).alloc _ _) m0)) (fun kk h => by cases h); have r1 := grow_cell hgrow6 (kept ((Grown.refl _).alloc _ _) (kept ((Grown.refl _).alloc _ _) m1)) (fun kk h => by cases h); have r2 := grow_cell hgrow6 (kept ((Grown.refl _).alloc _ _) (al0 w2 (.int .i64 x) (.int .i64 y) 30)) (fun kk h => by cases h); have r3 := grow_cell hgrow6 (kept ((Grown.refl _).alloc _ _) (al1 w2 (.int .i64 x) (.int .i64 y) 30)) (fun kk h => by cases h); have hb6 : w.heap.size < w6.heap.size := World.block_lt_of_cell? _ _ r0; have HO := Lib.hid hown6; clear hown6 hgrow6 hnil6 m0 m1) | (at_builtin; refine wpList_append_own _ rfl _ _ 22 rfl w.heap.size 30 i0 (.agg #[.int .i64 0, .int .i64 0]) 2 16 Try.underlying22 hi hz0 hz1 hz2 rfl (by decide) _ _ _ rfl (HO.out.alloc _) ⟨w6.heap.size, 0, none⟩ 1 1 [.int .i64 y, .int .i64 b] rfl rfl (news1' _ _ _ _) (one2 _ _) (by unfold maxLen; omega) (by omega) (by simp; omega) ?_; intro v7 w7 hown7 hgrow7 hnil7; have hE7 : Ext w w7 := ext_grownBy (hE6.alloc _ _) hgrow7 (fun kk h => (HO.out.lt kk h).1); have HO7 := Lib.hid hown7; clear hown7 hgrow7 hnil7))
  go_ret
  exact ⟨_, rfl, owns_zero HO7.out, hE7⟩
set_option maxHeartbeats 4000000 in
theorem rsub1 (a b c d x y : Int) (w : World) (h : okV a b = true) (k : itB a b c d = true) (hx : itF a b c d = x) (hy : itT a b c d = y) (hl : a < x) (hr : b ≤ y) : Calls Try.prog 35 #[pv a b, pv c d] w (SplitPost [(a, x)] w) := by
  obtain ⟨i0, hi, hz0, hz1, hz2⟩ := info_parts infoP
  have HV := Lib.hid h
  have HI := Lib.hid k
  have HX := Lib.hid hx
  have HY := Lib.hid hy
  clear h k hx hy
  go_enter Try.func35, Try.ntmps35
  go_wp2_with fail
  refine (vp_yes _ _ _ HV.out).mono ?_; rintro e w1 ⟨rfl, hg⟩
  obtain ⟨k0, k1, k2, k3⟩ := boxes hg (Grown.refl _)
  go_wp2_with fail
  refine (ris_at_yes _ _ _ _ _ _ _ HI.out HX.out HY.out).mono ?_; rintro e w2 ⟨rfl, hg2⟩
  have hE : Ext w w2 := ((((Ext.refl _).alloc _ _).alloc _ _).trans (ext_of_grown hg)).trans (ext_of_grown hg2)
  have m0 := kept hg2 k0
  have m1 := kept hg2 k1
  have hz : w.heap.size < w2.heap.size := World.block_lt_of_cell? _ _ m0
  clear k0 k1 k2 k3 hg hg2
  go_wp2_with (at_builtin; refine wpList_append_own _ rfl _ _ 22 rfl w.heap.size 30 i0 (.agg #[.int .i64 0, .int .i64 0]) 2 16 Try.underlying22 hi hz0 hz1 hz2 rfl (by decide) _ _ _ rfl (World.ownsRow_nil _ w.heap.size 30 2) ⟨w2.heap.size + 1, 0, none⟩ 1 1 [.int .i64 a, .int .i64 x] rfl rfl (news2 _ _ _ _ _ (alsz w2 _)) (one2 _ _) (by unfold maxLen; omega) (by omega) (by simp; omega) ?_; intro v6 w6 hown6 hgrow6 hnil6; have hE6 : Ext w w6 := ext_grownBy ((hE.alloc _ _).alloc _ _) hgrow6 (fun kk h => by cases h); have r0 := grow_cell hgrow6 (kept ((Grown.refl _).alloc _ _) (kept ((Grown.refl _).alloc _ _) m0)) (fun kk h => by cases h); have r1 := grow_cell hgrow6 (kept ((Grown.refl _).alloc _ _) (kept ((Grown.refl _).alloc _ _) m1)) (fun kk h => by cases h); have r2 := grow_cell hgrow6 (kept ((Grown.refl _).alloc _ _) (al0 w2 (.int .i64 x) (.int .i64 y) 30)) (fun kk h => by cases h); have r3 := grow_cell hgrow6 (kept ((Grown.refl _).alloc _ _) (al1 w2 (.int .i64 x) (.int .i64 y) 30)) (fun kk h => by cases h); have hb6 : w.heap.size < w6.heap.size := World.block_lt_of_cell? _ _ r0; have HO := Lib.hid hown6; clear hown6 hgrow6 hnil6 m0 m1)
  go_wp2_with fail
  go_ret
  exact ⟨_, rfl, owns_zero HO.out, hE6⟩
set_option maxHeartbeats 4000000 in
theorem rsub2 (a b c d x y : Int) (w : World) (h : okV a b = true) (k : itB a b c d = true) (hx : itF a b c d = x) (hy : itT a b c d = y) (hl : x ≤ a) (hr : y < b) : Calls Try.prog 35 #[pv a b, pv c d] w (SplitPost [(y, b)] w) := by
  obtain ⟨i0, hi, hz0, hz1, hz2⟩ := info_parts infoP
  have HV := Lib.hid h
  have HI := Lib.hid k
  have HX := Lib.hid hx
  have HY := Lib.hid hy
  clear h k hx hy
  go_enter Try.func35, Try.ntmps35
  go_wp2_with fail
  refine (vp_yes _ _ _ HV.out).mono ?_; rintro e w1 ⟨rfl, hg⟩
  obtain ⟨k0, k1, k2, k3⟩ := boxes hg (Grown.refl _)
  go_wp2_with fail
  refine (ris_at_yes _ _ _ _ _ _ _ HI.out HX.out HY.out).mono ?_; rintro e w2 ⟨rfl, hg2⟩
  have hE : Ext w w2 := ((((Ext.refl _).alloc _ _).alloc _ _).trans (ext_of_grown hg)).trans (ext_of_grown hg2)
  have m0 := kept hg2 k0
  have m1 := kept hg2 k1
  have hz : w.heap.size < w2.heap.size := World.block_lt_of_cell? _ _ m0
  clear k0 k1 k2 k3 hg hg2
  go_wp2_with (at_builtin; refine wpList_append_own _ rfl _ _ 22 rfl w.heap.size 30 i0 (.agg #[.int .i64 0, .int .i64 0]) 2 16 Try.underlying22 hi hz0 hz1 hz2 rfl (by decide) _ _ _ rfl (World.ownsRow_nil _ w.heap.size 30 2) ⟨w2.heap.size + 1, 0, none⟩ 1 1 [.int .i64 y, .int .i64 b] rfl rfl (news2 _ _ _ _ _ (alsz w2 _)) (one2 _ _) (by unfold maxLen; omega) (by omega) (by simp; omega) ?_; intro v7 w7 hown7 hgrow7 hnil7; have hE7 : Ext w w7 := ext_grownBy ((hE.alloc _ _).alloc _ _) hgrow7 (fun kk h => by cases h); have HO7 := Lib.hid hown7; clear hown7 hgrow7 hnil7)
  go_ret
  exact ⟨_, rfl, owns_zero HO7.out, hE7⟩
set_option maxHeartbeats 4000000 in
theorem rsub3 (a b c d x y : Int) (w : World) (h : okV a b = true) (k : itB a b c d = true) (hx : itF a b c d = x) (hy : itT a b c d = y) (hl : x ≤ a) (hr : b ≤ y) : Calls Try.prog 35 #[pv a b, pv c d] w (SplitPost [] w) := by
  obtain ⟨i0, hi, hz0, hz1, hz2⟩ := info_parts infoP
  have HV := Lib.hid h
  have HI := Lib.hid k
  have HX := Lib.hid hx
  have HY := Lib.hid hy
  clear h k hx hy
  go_enter Try.func35, Try.ntmps35
  go_wp2_with fail
  refine (vp_yes _ _ _ HV.out).mono ?_; rintro e w1 ⟨rfl, hg⟩
  obtain ⟨k0, k1, k2, k3⟩ := boxes hg (Grown.refl _)
  go_wp2_with fail
  refine (ris_at_yes _ _ _ _ _ _ _ HI.out HX.out HY.out).mono ?_; rintro e w2 ⟨rfl, hg2⟩
  have hE : Ext w w2 := ((((Ext.refl _).alloc _ _).alloc _ _).trans (ext_of_grown hg)).trans (ext_of_grown hg2)
  have m0 := kept hg2 k0
  have m1 := kept hg2 k1
  have hz : w.heap.size < w2.heap.size := World.block_lt_of_cell? _ _ m0
  clear k0 k1 k2 k3 hg hg2
  go_wp2_with fail
  go_ret
  exact ⟨_, rfl, World.ownsRow_nil _ _ _ _, hE.alloc _ _⟩
theorem sub_ref (a b c d : Int) (w : World) : Calls Try.prog 35 #[pv a b, pv c d] w (SplitPost (subL a b c d) w) := by
  cases h : okV a b
  · rw [show subL a b c d = [] by simp [subL, h]]; exact rsub_bad a b c d w h
  · cases k : itB a b c d
    · rw [show subL a b c d = [(a, b)] by simp [subL, h, k]]; exact rsub_all a b c d w h k
    · rw [show subL a b c d = leftL a b (itF a b c d) (itT a b c d) by simp [subL, h, k]]
      unfold leftL
      by_cases hl : a < itF a b c d <;> by_cases hr : itT a b c d < b
      · rw [if_pos hl, if_pos hr]; exact rsub0 a b c d _ _ w h k rfl rfl hl hr
      · rw [if_pos hl, if_neg hr]; exact rsub1 a b c d _ _ w h k rfl rfl hl (by omega)
      · rw [if_neg hl, if_pos hr]; exact rsub2 a b c d _ _ w h k rfl rfl (by omega) hr
      · rw [if_neg hl, if_neg hr]; exact rsub3 a b c d _ _ w h k rfl rfl (by omega) (by omega)
end Go.Proofs.Ytckknhocmbhmhaa
