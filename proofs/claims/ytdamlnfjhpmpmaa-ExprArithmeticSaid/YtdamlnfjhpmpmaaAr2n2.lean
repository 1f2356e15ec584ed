/- ExprArithmetic walked: n2. -/
import Derived.Test.YtdamlnfjhpmpmaaAr1
namespace Go.Proofs.Ytdamlnfjhpmpmaa
open Go.ChangeShapes Go.WideShapes Go.ChangeAt Go.RowKit


set_option maxHeartbeats 4000000 in
set_option maxRecDepth 100000 in
theorem arw_n2_po (x y pk pn ln en : Int) (w : World) (s1 : decide (-2147483648 ≤ x) = true) (s2 : decide (x < 2147483648) = false) (v1 : decide (0 < y) = true) (m : Int) (hm : wrap64 (9223372036854775807 - y) = m) (v3 : decide (m < x) = true) (c2 : EvC x y 2 ⟨0, 0, []⟩) (c3 : EvC x y 3 ⟨0, 0, []⟩) (c4 : EvC x y 4 ⟨pk, pn, []⟩) (c5 : EvC x y 5 ⟨3, ln, []⟩) (c6 : EvC x y 6 ⟨3, en, []⟩) (hln : (ln == 1) = decide (x < y)) (hen : (en == 1) = (x == y)) :
    Calls Try.prog 9 #[.int .i64 x, .int .i64 y] w fun e w' => e = .returned (.bool true) ∧ Ext w w' := by
  have hRL : RdG ((w.alloc (.cells (cellsG arL).toArray 44)).alloc (.cells (cellsG (arR x y)).toArray 34)) (.slice (some ⟨w.heap.size, 0, none⟩) 7 7) arL := (rd_litG w arL _ _ _ _ rfl rfl (by decide) rfl).ext ((Ext.refl _).alloc _ _)
  have hRR : RdG ((w.alloc (.cells (cellsG arL).toArray 44)).alloc (.cells (cellsG (arR x y)).toArray 34)) (.slice (some ⟨w.heap.size + 1, 0, none⟩) 2 2) (arR x y) := rd_litG _ (arR x y) _ _ _ _ (by simp) rfl (by simp [arR]) rfl
  have hr0 : ((w.alloc (.cells (cellsG arL).toArray 44)).alloc (.cells (cellsG (arR x y)).toArray 34)).cell? ⟨w.heap.size + 1, 0, none⟩ = some (.int .i64 1) := by have := al_c (w.alloc (.cells (cellsG arL).toArray 44)) (cellsG (arR x y)).toArray 34 0 (.int .i64 1) rfl; rw [alsz] at this; exact this
  have hr1 : ((w.alloc (.cells (cellsG arL).toArray 44)).alloc (.cells (cellsG (arR x y)).toArray 34)).cell? ⟨w.heap.size + 1, 1, none⟩ = some (.int .i64 x) := by have := al_c (w.alloc (.cells (cellsG arL).toArray 44)) (cellsG (arR x y)).toArray 34 1 (.int .i64 x) rfl; rw [alsz] at this; exact this
  have hr2 : ((w.alloc (.cells (cellsG arL).toArray 44)).alloc (.cells (cellsG (arR x y)).toArray 34)).cell? ⟨w.heap.size + 1, 2, none⟩ = some (sv []) := by have := al_c (w.alloc (.cells (cellsG arL).toArray 44)) (cellsG (arR x y)).toArray 34 2 (sv []) rfl; rw [alsz] at this; exact this
  have hEw : Ext w ((w.alloc (.cells (cellsG arL).toArray 44)).alloc (.cells (cellsG (arR x y)).toArray 34)) := ((Ext.refl _).alloc _ _).alloc _ _
  have RL := Lib.hid hRL
  have RR := Lib.hid hRR
  have R0 := Lib.hid hr0
  have R1 := Lib.hid hr1
  have R2 := Lib.hid hr2
  have EW := Lib.hid hEw
  have C2 := Lib.hid c2
  have C3 := Lib.hid c3
  have C4 := Lib.hid c4
  have C5 := Lib.hid c5
  have C6 := Lib.hid c6
  clear hRL hRR hr0 hr1 hr2 hEw c2 c3 c4 c5 c6
  go_enter Try.func9, Try.ntmps9
  go_wp2_with fail
  refine (C2.out _ _ _ RL.out RR.out).mono ?_; rintro e w1 ⟨rfl, hE1⟩
  have E1 := Lib.hid hE1
  clear hE1
  go_wp2_with fail
  refine (C3.out _ _ _ (RL.out.ext E1.out) (RR.out.ext E1.out)).mono ?_; rintro e w2 ⟨rfl, hE2⟩
  have E2 := Lib.hid (E1.out.trans hE2)
  clear hE2
  go_wp2_with fail
  refine (C4.out _ _ _ (RL.out.ext E2.out) (RR.out.ext E2.out)).mono ?_; rintro e w3 ⟨rfl, hE3⟩
  have E3 := Lib.hid (E2.out.trans hE3)
  clear hE3
  have hX : Ext w3 (((w3.alloc (.cells #[.int .i64 0, .int .i64 0, sv []] 34)).alloc (.cells #[.int .i64 0, .int .i64 0, sv []] 34)).alloc (.cells #[.int .i64 pk, .int .i64 pn, sv []] 34)) := (((Ext.refl _).alloc _ _).alloc _ _).alloc _ _
  have q0 := (E3.out.trans hX).keeps R0.out
  have q1 := (E3.out.trans hX).keeps R1.out
  have q2 := (E3.out.trans hX).keeps R2.out
  have HX := Lib.hid (E3.out.trans hX)
  have hs3 : w.heap.size + 1 < w3.heap.size := by have := E3.out.2.2; rw [alsz, alsz] at this; omega
  clear hX
  go_wp2_with fail
  go_quiet (fail)
  go_wp2_with fail
  refine (C5.out _ _ _ (RL.out.ext (ext_drewN HX.out _)) (RR.out.ext (ext_drewN HX.out _))).mono ?_; rintro e w4 ⟨rfl, hE4⟩
  have E4 := Lib.hid ((ext_drewN HX.out _).trans hE4)
  clear hE4 q0 q1 q2
  go_wp2_with fail
  refine (C6.out _ _ _ (RL.out.ext E4.out) (RR.out.ext E4.out)).mono ?_; rintro e w5 ⟨rfl, hE5⟩
  have E5 := Lib.hid (E4.out.trans hE5)
  clear hE5
  have hX5 : Ext w5 ((w5.alloc (.cells #[.int .i64 3, .int .i64 ln, sv []] 34)).alloc (.cells #[.int .i64 3, .int .i64 en, sv []] 34)) := ((Ext.refl _).alloc _ _).alloc _ _
  have E5' := Lib.hid (E5.out.trans hX5)
  have a0 := al_c w5 #[.int .i64 3, .int .i64 ln, sv []] 34 0 _ rfl
  have a1 := al_c w5 #[.int .i64 3, .int .i64 ln, sv []] 34 1 _ rfl
  have A0 := Lib.hid (((Ext.refl _).alloc #[.int .i64 3, .int .i64 en, sv []] 34).keeps a0)
  have A1 := Lib.hid (((Ext.refl _).alloc #[.int .i64 3, .int .i64 en, sv []] 34).keeps a1)
  have b0 := al_c (w5.alloc (.cells #[.int .i64 3, .int .i64 ln, sv []] 34)) #[.int .i64 3, .int .i64 en, sv []] 34 0 _ rfl
  have b1 := al_c (w5.alloc (.cells #[.int .i64 3, .int .i64 ln, sv []] 34)) #[.int .i64 3, .int .i64 en, sv []] 34 1 _ rfl
  rw [alsz] at b0 b1
  have B0 := Lib.hid b0
  have B1 := Lib.hid b1
  clear hX5 a0 a1 b0 b1
  go_wp2_with fail
  refine (awake_law _).mono ?_; rintro e w6 ⟨rfl, hE6⟩
  have k0 := hE6.keeps A0.out
  have k1 := hE6.keeps A1.out
  have j0 := hE6.keeps B0.out
  have j1 := hE6.keeps B1.out
  have E6 := Lib.hid ((EW.out.trans E5'.out).trans hE6)
  clear hE6
  go_wp2_with fail
  go_ret
  exact ⟨by simp, E6.out⟩
set_option maxHeartbeats 4000000 in
set_option maxRecDepth 100000 in
theorem arw_n2_pn (x y z pk pn ln en : Int) (w : World) (s1 : decide (-2147483648 ≤ x) = true) (s2 : decide (x < 2147483648) = false) (v1 : decide (0 < y) = true) (m : Int) (hm : wrap64 (9223372036854775807 - y) = m) (v3 : decide (m < x) = false) (v4 : decide (y < 0) = false) (c2 : EvC x y 2 ⟨1, z, []⟩) (c3 : EvC x y 3 ⟨1, x, []⟩) (c4 : EvC x y 4 ⟨pk, pn, []⟩) (c5 : EvC x y 5 ⟨3, ln, []⟩) (c6 : EvC x y 6 ⟨3, en, []⟩) (hln : (ln == 1) = decide (x < y)) (hen : (en == 1) = (x == y)) :
    Calls Try.prog 9 #[.int .i64 x, .int .i64 y] w fun e w' => e = .returned (.bool true) ∧ Ext w w' := by
  have hRL : RdG ((w.alloc (.cells (cellsG arL).toArray 44)).alloc (.cells (cellsG (arR x y)).toArray 34)) (.slice (some ⟨w.heap.size, 0, none⟩) 7 7) arL := (rd_litG w arL _ _ _ _ rfl rfl (by decide) rfl).ext ((Ext.refl _).alloc _ _)
  have hRR : RdG ((w.alloc (.cells (cellsG arL).toArray 44)).alloc (.cells (cellsG (arR x y)).toArray 34)) (.slice (some ⟨w.heap.size + 1, 0, none⟩) 2 2) (arR x y) := rd_litG _ (arR x y) _ _ _ _ (by simp) rfl (by simp [arR]) rfl
  have hr0 : ((w.alloc (.cells (cellsG arL).toArray 44)).alloc (.cells (cellsG (arR x y)).toArray 34)).cell? ⟨w.heap.size + 1, 0, none⟩ = some (.int .i64 1) := by have := al_c (w.alloc (.cells (cellsG arL).toArray 44)) (cellsG (arR x y)).toArray 34 0 (.int .i64 1) rfl; rw [alsz] at this; exact this
  have hr1 : ((w.alloc (.cells (cellsG arL).toArray 44)).alloc (.cells (cellsG (arR x y)).toArray 34)).cell? ⟨w.heap.size + 1, 1, none⟩ = some (.int .i64 x) := by have := al_c (w.alloc (.cells (cellsG arL).toArray 44)) (cellsG (arR x y)).toArray 34 1 (.int .i64 x) rfl; rw [alsz] at this; exact this
  have hr2 : ((w.alloc (.cells (cellsG arL).toArray 44)).alloc (.cells (cellsG (arR x y)).toArray 34)).cell? ⟨w.heap.size + 1, 2, none⟩ = some (sv []) := by have := al_c (w.alloc (.cells (cellsG arL).toArray 44)) (cellsG (arR x y)).toArray 34 2 (sv []) rfl; rw [alsz] at this; exact this
  have hEw : Ext w ((w.alloc (.cells (cellsG arL).toArray 44)).alloc (.cells (cellsG (arR x y)).toArray 34)) := ((Ext.refl _).alloc _ _).alloc _ _
  have RL := Lib.hid hRL
  have RR := Lib.hid hRR
  have R0 := Lib.hid hr0
  have R1 := Lib.hid hr1
  have R2 := Lib.hid hr2
  have EW := Lib.hid hEw
  have C2 := Lib.hid c2
  have C3 := Lib.hid c3
  have C4 := Lib.hid c4
  have C5 := Lib.hid c5
  have C6 := Lib.hid c6
  clear hRL hRR hr0 hr1 hr2 hEw c2 c3 c4 c5 c6
  go_enter Try.func9, Try.ntmps9
  go_wp2_with fail
  refine (C2.out _ _ _ RL.out RR.out).mono ?_; rintro e w1 ⟨rfl, hE1⟩
  have E1 := Lib.hid hE1
  clear hE1
  go_wp2_with fail
  refine (C3.out _ _ _ (RL.out.ext E1.out) (RR.out.ext E1.out)).mono ?_; rintro e w2 ⟨rfl, hE2⟩
  have E2 := Lib.hid (E1.out.trans hE2)
  clear hE2
  go_wp2_with fail
  refine (C4.out _ _ _ (RL.out.ext E2.out) (RR.out.ext E2.out)).mono ?_; rintro e w3 ⟨rfl, hE3⟩
  have E3 := Lib.hid (E2.out.trans hE3)
  clear hE3
  have hX : Ext w3 (((w3.alloc (.cells #[.int .i64 1, .int .i64 z, sv []] 34)).alloc (.cells #[.int .i64 1, .int .i64 x, sv []] 34)).alloc (.cells #[.int .i64 pk, .int .i64 pn, sv []] 34)) := (((Ext.refl _).alloc _ _).alloc _ _).alloc _ _
  have q0 := (E3.out.trans hX).keeps R0.out
  have q1 := (E3.out.trans hX).keeps R1.out
  have q2 := (E3.out.trans hX).keeps R2.out
  have HX := Lib.hid (E3.out.trans hX)
  have hs3 : w.heap.size + 1 < w3.heap.size := by have := E3.out.2.2; rw [alsz, alsz] at this; omega
  clear hX
  go_wp2_with fail
  go_quiet (fail)
  go_wp2_with fail
  refine (C5.out _ _ _ (RL.out.ext (ext_drewN HX.out _)) (RR.out.ext (ext_drewN HX.out _))).mono ?_; rintro e w4 ⟨rfl, hE4⟩
  have E4 := Lib.hid ((ext_drewN HX.out _).trans hE4)
  clear hE4 q0 q1 q2
  go_wp2_with fail
  refine (C6.out _ _ _ (RL.out.ext E4.out) (RR.out.ext E4.out)).mono ?_; rintro e w5 ⟨rfl, hE5⟩
  have E5 := Lib.hid (E4.out.trans hE5)
  clear hE5
  have hX5 : Ext w5 ((w5.alloc (.cells #[.int .i64 3, .int .i64 ln, sv []] 34)).alloc (.cells #[.int .i64 3, .int .i64 en, sv []] 34)) := ((Ext.refl _).alloc _ _).alloc _ _
  have E5' := Lib.hid (E5.out.trans hX5)
  have a0 := al_c w5 #[.int .i64 3, .int .i64 ln, sv []] 34 0 _ rfl
  have a1 := al_c w5 #[.int .i64 3, .int .i64 ln, sv []] 34 1 _ rfl
  have A0 := Lib.hid (((Ext.refl _).alloc #[.int .i64 3, .int .i64 en, sv []] 34).keeps a0)
  have A1 := Lib.hid (((Ext.refl _).alloc #[.int .i64 3, .int .i64 en, sv []] 34).keeps a1)
  have b0 := al_c (w5.alloc (.cells #[.int .i64 3, .int .i64 ln, sv []] 34)) #[.int .i64 3, .int .i64 en, sv []] 34 0 _ rfl
  have b1 := al_c (w5.alloc (.cells #[.int .i64 3, .int .i64 ln, sv []] 34)) #[.int .i64 3, .int .i64 en, sv []] 34 1 _ rfl
  rw [alsz] at b0 b1
  have B0 := Lib.hid b0
  have B1 := Lib.hid b1
  clear hX5 a0 a1 b0 b1
  go_wp2_with fail
  refine (awake_law _).mono ?_; rintro e w6 ⟨rfl, hE6⟩
  have k0 := hE6.keeps A0.out
  have k1 := hE6.keeps A1.out
  have j0 := hE6.keeps B0.out
  have j1 := hE6.keeps B1.out
  have E6 := Lib.hid ((EW.out.trans E5'.out).trans hE6)
  clear hE6
  go_wp2_with fail
  go_ret
  exact ⟨by simp, E6.out⟩
set_option maxHeartbeats 4000000 in
set_option maxRecDepth 100000 in
theorem arw_n2_no (x y pk pn ln en : Int) (w : World) (s1 : decide (-2147483648 ≤ x) = true) (s2 : decide (x < 2147483648) = false) (v1 : decide (0 < y) = false) (v2 : decide (y < 0) = true) (m : Int) (hm : wrap64 (-9223372036854775808 - y) = m) (v4 : decide (x < m) = true) (c2 : EvC x y 2 ⟨0, 0, []⟩) (c3 : EvC x y 3 ⟨0, 0, []⟩) (c4 : EvC x y 4 ⟨pk, pn, []⟩) (c5 : EvC x y 5 ⟨3, ln, []⟩) (c6 : EvC x y 6 ⟨3, en, []⟩) (hln : (ln == 1) = decide (x < y)) (hen : (en == 1) = (x == y)) :
    Calls Try.prog 9 #[.int .i64 x, .int .i64 y] w fun e w' => e = .returned (.bool true) ∧ Ext w w' := by
  have hRL : RdG ((w.alloc (.cells (cellsG arL).toArray 44)).alloc (.cells (cellsG (arR x y)).toArray 34)) (.slice (some ⟨w.heap.size, 0, none⟩) 7 7) arL := (rd_litG w arL _ _ _ _ rfl rfl (by decide) rfl).ext ((Ext.refl _).alloc _ _)
  have hRR : RdG ((w.alloc (.cells (cellsG arL).toArray 44)).alloc (.cells (cellsG (arR x y)).toArray 34)) (.slice (some ⟨w.heap.size + 1, 0, none⟩) 2 2) (arR x y) := rd_litG _ (arR x y) _ _ _ _ (by simp) rfl (by simp [arR]) rfl
  have hr0 : ((w.alloc (.cells (cellsG arL).toArray 44)).alloc (.cells (cellsG (arR x y)).toArray 34)).cell? ⟨w.heap.size + 1, 0, none⟩ = some (.int .i64 1) := by have := al_c (w.alloc (.cells (cellsG arL).toArray 44)) (cellsG (arR x y)).toArray 34 0 (.int .i64 1) rfl; rw [alsz] at this; exact this
  have hr1 : ((w.alloc (.cells (cellsG arL).toArray 44)).alloc (.cells (cellsG (arR x y)).toArray 34)).cell? ⟨w.heap.size + 1, 1, none⟩ = some (.int .i64 x) := by have := al_c (w.alloc (.cells (cellsG arL).toArray 44)) (cellsG (arR x y)).toArray 34 1 (.int .i64 x) rfl; rw [alsz] at this; exact this
  have hr2 : ((w.alloc (.cells (cellsG arL).toArray 44)).alloc (.cells (cellsG (arR x y)).toArray 34)).cell? ⟨w.heap.size + 1, 2, none⟩ = some (sv []) := by have := al_c (w.alloc (.cells (cellsG arL).toArray 44)) (cellsG (arR x y)).toArray 34 2 (sv []) rfl; rw [alsz] at this; exact this
  have hEw : Ext w ((w.alloc (.cells (cellsG arL).toArray 44)).alloc (.cells (cellsG (arR x y)).toArray 34)) := ((Ext.refl _).alloc _ _).alloc _ _
  have RL := Lib.hid hRL
  have RR := Lib.hid hRR
  have R0 := Lib.hid hr0
  have R1 := Lib.hid hr1
  have R2 := Lib.hid hr2
  have EW := Lib.hid hEw
  have C2 := Lib.hid c2
  have C3 := Lib.hid c3
  have C4 := Lib.hid c4
  have C5 := Lib.hid c5
  have C6 := Lib.hid c6
  clear hRL hRR hr0 hr1 hr2 hEw c2 c3 c4 c5 c6
  go_enter Try.func9, Try.ntmps9
  go_wp2_with fail
  refine (C2.out _ _ _ RL.out RR.out).mono ?_; rintro e w1 ⟨rfl, hE1⟩
  have E1 := Lib.hid hE1
  clear hE1
  go_wp2_with fail
  refine (C3.out _ _ _ (RL.out.ext E1.out) (RR.out.ext E1.out)).mono ?_; rintro e w2 ⟨rfl, hE2⟩
  have E2 := Lib.hid (E1.out.trans hE2)
  clear hE2
  go_wp2_with fail
  refine (C4.out _ _ _ (RL.out.ext E2.out) (RR.out.ext E2.out)).mono ?_; rintro e w3 ⟨rfl, hE3⟩
  have E3 := Lib.hid (E2.out.trans hE3)
  clear hE3
  have hX : Ext w3 (((w3.alloc (.cells #[.int .i64 0, .int .i64 0, sv []] 34)).alloc (.cells #[.int .i64 0, .int .i64 0, sv []] 34)).alloc (.cells #[.int .i64 pk, .int .i64 pn, sv []] 34)) := (((Ext.refl _).alloc _ _).alloc _ _).alloc _ _
  have q0 := (E3.out.trans hX).keeps R0.out
  have q1 := (E3.out.trans hX).keeps R1.out
  have q2 := (E3.out.trans hX).keeps R2.out
  have HX := Lib.hid (E3.out.trans hX)
  have hs3 : w.heap.size + 1 < w3.heap.size := by have := E3.out.2.2; rw [alsz, alsz] at this; omega
  clear hX
  go_wp2_with fail
  go_quiet (fail)
  go_wp2_with fail
  refine (C5.out _ _ _ (RL.out.ext (ext_drewN HX.out _)) (RR.out.ext (ext_drewN HX.out _))).mono ?_; rintro e w4 ⟨rfl, hE4⟩
  have E4 := Lib.hid ((ext_drewN HX.out _).trans hE4)
  clear hE4 q0 q1 q2
  go_wp2_with fail
  refine (C6.out _ _ _ (RL.out.ext E4.out) (RR.out.ext E4.out)).mono ?_; rintro e w5 ⟨rfl, hE5⟩
  have E5 := Lib.hid (E4.out.trans hE5)
  clear hE5
  have hX5 : Ext w5 ((w5.alloc (.cells #[.int .i64 3, .int .i64 ln, sv []] 34)).alloc (.cells #[.int .i64 3, .int .i64 en, sv []] 34)) := ((Ext.refl _).alloc _ _).alloc _ _
  have E5' := Lib.hid (E5.out.trans hX5)
  have a0 := al_c w5 #[.int .i64 3, .int .i64 ln, sv []] 34 0 _ rfl
  have a1 := al_c w5 #[.int .i64 3, .int .i64 ln, sv []] 34 1 _ rfl
  have A0 := Lib.hid (((Ext.refl _).alloc #[.int .i64 3, .int .i64 en, sv []] 34).keeps a0)
  have A1 := Lib.hid (((Ext.refl _).alloc #[.int .i64 3, .int .i64 en, sv []] 34).keeps a1)
  have b0 := al_c (w5.alloc (.cells #[.int .i64 3, .int .i64 ln, sv []] 34)) #[.int .i64 3, .int .i64 en, sv []] 34 0 _ rfl
  have b1 := al_c (w5.alloc (.cells #[.int .i64 3, .int .i64 ln, sv []] 34)) #[.int .i64 3, .int .i64 en, sv []] 34 1 _ rfl
  rw [alsz] at b0 b1
  have B0 := Lib.hid b0
  have B1 := Lib.hid b1
  clear hX5 a0 a1 b0 b1
  go_wp2_with fail
  refine (awake_law _).mono ?_; rintro e w6 ⟨rfl, hE6⟩
  have k0 := hE6.keeps A0.out
  have k1 := hE6.keeps A1.out
  have j0 := hE6.keeps B0.out
  have j1 := hE6.keeps B1.out
  have E6 := Lib.hid ((EW.out.trans E5'.out).trans hE6)
  clear hE6
  go_wp2_with fail
  go_ret
  exact ⟨by simp, E6.out⟩
set_option maxHeartbeats 4000000 in
set_option maxRecDepth 100000 in
theorem arw_n2_nn (x y z pk pn ln en : Int) (w : World) (s1 : decide (-2147483648 ≤ x) = true) (s2 : decide (x < 2147483648) = false) (v1 : decide (0 < y) = false) (v2 : decide (y < 0) = true) (m : Int) (hm : wrap64 (-9223372036854775808 - y) = m) (v4 : decide (x < m) = false) (c2 : EvC x y 2 ⟨1, z, []⟩) (c3 : EvC x y 3 ⟨1, x, []⟩) (c4 : EvC x y 4 ⟨pk, pn, []⟩) (c5 : EvC x y 5 ⟨3, ln, []⟩) (c6 : EvC x y 6 ⟨3, en, []⟩) (hln : (ln == 1) = decide (x < y)) (hen : (en == 1) = (x == y)) :
    Calls Try.prog 9 #[.int .i64 x, .int .i64 y] w fun e w' => e = .returned (.bool true) ∧ Ext w w' := by
  have hRL : RdG ((w.alloc (.cells (cellsG arL).toArray 44)).alloc (.cells (cellsG (arR x y)).toArray 34)) (.slice (some ⟨w.heap.size, 0, none⟩) 7 7) arL := (rd_litG w arL _ _ _ _ rfl rfl (by decide) rfl).ext ((Ext.refl _).alloc _ _)
  have hRR : RdG ((w.alloc (.cells (cellsG arL).toArray 44)).alloc (.cells (cellsG (arR x y)).toArray 34)) (.slice (some ⟨w.heap.size + 1, 0, none⟩) 2 2) (arR x y) := rd_litG _ (arR x y) _ _ _ _ (by simp) rfl (by simp [arR]) rfl
  have hr0 : ((w.alloc (.cells (cellsG arL).toArray 44)).alloc (.cells (cellsG (arR x y)).toArray 34)).cell? ⟨w.heap.size + 1, 0, none⟩ = some (.int .i64 1) := by have := al_c (w.alloc (.cells (cellsG arL).toArray 44)) (cellsG (arR x y)).toArray 34 0 (.int .i64 1) rfl; rw [alsz] at this; exact this
  have hr1 : ((w.alloc (.cells (cellsG arL).toArray 44)).alloc (.cells (cellsG (arR x y)).toArray 34)).cell? ⟨w.heap.size + 1, 1, none⟩ = some (.int .i64 x) := by have := al_c (w.alloc (.cells (cellsG arL).toArray 44)) (cellsG (arR x y)).toArray 34 1 (.int .i64 x) rfl; rw [alsz] at this; exact this
  have hr2 : ((w.alloc (.cells (cellsG arL).toArray 44)).alloc (.cells (cellsG (arR x y)).toArray 34)).cell? ⟨w.heap.size + 1, 2, none⟩ = some (sv []) := by have := al_c (w.alloc (.cells (cellsG arL).toArray 44)) (cellsG (arR x y)).toArray 34 2 (sv []) rfl; rw [alsz] at this; exact this
  have hEw : Ext w ((w.alloc (.cells (cellsG arL).toArray 44)).alloc (.cells (cellsG (arR x y)).toArray 34)) := ((Ext.refl _).alloc _ _).alloc _ _
  have RL := Lib.hid hRL
  have RR := Lib.hid hRR
  have R0 := Lib.hid hr0
  have R1 := Lib.hid hr1
  have R2 := Lib.hid hr2
  have EW := Lib.hid hEw
  have C2 := Lib.hid c2
  have C3 := Lib.hid c3
  have C4 := Lib.hid c4
  have C5 := Lib.hid c5
  have C6 := Lib.hid c6
  clear hRL hRR hr0 hr1 hr2 hEw c2 c3 c4 c5 c6
  go_enter Try.func9, Try.ntmps9
  go_wp2_with fail
  refine (C2.out _ _ _ RL.out RR.out).mono ?_; rintro e w1 ⟨rfl, hE1⟩
  have E1 := Lib.hid hE1
  clear hE1
  go_wp2_with fail
  refine (C3.out _ _ _ (RL.out.ext E1.out) (RR.out.ext E1.out)).mono ?_; rintro e w2 ⟨rfl, hE2⟩
  have E2 := Lib.hid (E1.out.trans hE2)
  clear hE2
  go_wp2_with fail
  refine (C4.out _ _ _ (RL.out.ext E2.out) (RR.out.ext E2.out)).mono ?_; rintro e w3 ⟨rfl, hE3⟩
  have E3 := Lib.hid (E2.out.trans hE3)
  clear hE3
  have hX : Ext w3 (((w3.alloc (.cells #[.int .i64 1, .int .i64 z, sv []] 34)).alloc (.cells #[.int .i64 1, .int .i64 x, sv []] 34)).alloc (.cells #[.int .i64 pk, .int .i64 pn, sv []] 34)) := (((Ext.refl _).alloc _ _).alloc _ _).alloc _ _
  have q0 := (E3.out.trans hX).keeps R0.out
  have q1 := (E3.out.trans hX).keeps R1.out
  have q2 := (E3.out.trans hX).keeps R2.out
  have HX := Lib.hid (E3.out.trans hX)
  have hs3 : w.heap.size + 1 < w3.heap.size := by have := E3.out.2.2; rw [alsz, alsz] at this; omega
  clear hX
  go_wp2_with fail
  go_quiet (fail)
  go_wp2_with fail
  refine (C5.out _ _ _ (RL.out.ext (ext_drewN HX.out _)) (RR.out.ext (ext_drewN HX.out _))).mono ?_; rintro e w4 ⟨rfl, hE4⟩
  have E4 := Lib.hid ((ext_drewN HX.out _).trans hE4)
  clear hE4 q0 q1 q2
  go_wp2_with fail
  refine (C6.out _ _ _ (RL.out.ext E4.out) (RR.out.ext E4.out)).mono ?_; rintro e w5 ⟨rfl, hE5⟩
  have E5 := Lib.hid (E4.out.trans hE5)
  clear hE5
  have hX5 : Ext w5 ((w5.alloc (.cells #[.int .i64 3, .int .i64 ln, sv []] 34)).alloc (.cells #[.int .i64 3, .int .i64 en, sv []] 34)) := ((Ext.refl _).alloc _ _).alloc _ _
  have E5' := Lib.hid (E5.out.trans hX5)
  have a0 := al_c w5 #[.int .i64 3, .int .i64 ln, sv []] 34 0 _ rfl
  have a1 := al_c w5 #[.int .i64 3, .int .i64 ln, sv []] 34 1 _ rfl
  have A0 := Lib.hid (((Ext.refl _).alloc #[.int .i64 3, .int .i64 en, sv []] 34).keeps a0)
  have A1 := Lib.hid (((Ext.refl _).alloc #[.int .i64 3, .int .i64 en, sv []] 34).keeps a1)
  have b0 := al_c (w5.alloc (.cells #[.int .i64 3, .int .i64 ln, sv []] 34)) #[.int .i64 3, .int .i64 en, sv []] 34 0 _ rfl
  have b1 := al_c (w5.alloc (.cells #[.int .i64 3, .int .i64 ln, sv []] 34)) #[.int .i64 3, .int .i64 en, sv []] 34 1 _ rfl
  rw [alsz] at b0 b1
  have B0 := Lib.hid b0
  have B1 := Lib.hid b1
  clear hX5 a0 a1 b0 b1
  go_wp2_with fail
  refine (awake_law _).mono ?_; rintro e w6 ⟨rfl, hE6⟩
  have k0 := hE6.keeps A0.out
  have k1 := hE6.keeps A1.out
  have j0 := hE6.keeps B0.out
  have j1 := hE6.keeps B1.out
  have E6 := Lib.hid ((EW.out.trans E5'.out).trans hE6)
  clear hE6
  go_wp2_with fail
  go_ret
  exact ⟨by simp, E6.out⟩
set_option maxHeartbeats 4000000 in
set_option maxRecDepth 100000 in
theorem arw_n2_z (x y z pk pn ln en : Int) (w : World) (s1 : decide (-2147483648 ≤ x) = true) (s2 : decide (x < 2147483648) = false) (v1 : decide (0 < y) = false) (v2 : decide (y < 0) = false) (c2 : EvC x y 2 ⟨1, z, []⟩) (c3 : EvC x y 3 ⟨1, x, []⟩) (c4 : EvC x y 4 ⟨pk, pn, []⟩) (c5 : EvC x y 5 ⟨3, ln, []⟩) (c6 : EvC x y 6 ⟨3, en, []⟩) (hln : (ln == 1) = decide (x < y)) (hen : (en == 1) = (x == y)) :
    Calls Try.prog 9 #[.int .i64 x, .int .i64 y] w fun e w' => e = .returned (.bool true) ∧ Ext w w' := by
  have hRL : RdG ((w.alloc (.cells (cellsG arL).toArray 44)).alloc (.cells (cellsG (arR x y)).toArray 34)) (.slice (some ⟨w.heap.size, 0, none⟩) 7 7) arL := (rd_litG w arL _ _ _ _ rfl rfl (by decide) rfl).ext ((Ext.refl _).alloc _ _)
  have hRR : RdG ((w.alloc (.cells (cellsG arL).toArray 44)).alloc (.cells (cellsG (arR x y)).toArray 34)) (.slice (some ⟨w.heap.size + 1, 0, none⟩) 2 2) (arR x y) := rd_litG _ (arR x y) _ _ _ _ (by simp) rfl (by simp [arR]) rfl
  have hr0 : ((w.alloc (.cells (cellsG arL).toArray 44)).alloc (.cells (cellsG (arR x y)).toArray 34)).cell? ⟨w.heap.size + 1, 0, none⟩ = some (.int .i64 1) := by have := al_c (w.alloc (.cells (cellsG arL).toArray 44)) (cellsG (arR x y)).toArray 34 0 (.int .i64 1) rfl; rw [alsz] at this; exact this
  have hr1 : ((w.alloc (.cells (cellsG arL).toArray 44)).alloc (.cells (cellsG (arR x y)).toArray 34)).cell? ⟨w.heap.size + 1, 1, none⟩ = some (.int .i64 x) := by have := al_c (w.alloc (.cells (cellsG arL).toArray 44)) (cellsG (arR x y)).toArray 34 1 (.int .i64 x) rfl; rw [alsz] at this; exact this
  have hr2 : ((w.alloc (.cells (cellsG arL).toArray 44)).alloc (.cells (cellsG (arR x y)).toArray 34)).cell? ⟨w.heap.size + 1, 2, none⟩ = some (sv []) := by have := al_c (w.alloc (.cells (cellsG arL).toArray 44)) (cellsG (arR x y)).toArray 34 2 (sv []) rfl; rw [alsz] at this; exact this
  have hEw : Ext w ((w.alloc (.cells (cellsG arL).toArray 44)).alloc (.cells (cellsG (arR x y)).toArray 34)) := ((Ext.refl _).alloc _ _).alloc _ _
  have RL := Lib.hid hRL
  have RR := Lib.hid hRR
  have R0 := Lib.hid hr0
  have R1 := Lib.hid hr1
  have R2 := Lib.hid hr2
  have EW := Lib.hid hEw
  have C2 := Lib.hid c2
  have C3 := Lib.hid c3
  have C4 := Lib.hid c4
  have C5 := Lib.hid c5
  have C6 := Lib.hid c6
  clear hRL hRR hr0 hr1 hr2 hEw c2 c3 c4 c5 c6
  go_enter Try.func9, Try.ntmps9
  go_wp2_with fail
  refine (C2.out _ _ _ RL.out RR.out).mono ?_; rintro e w1 ⟨rfl, hE1⟩
  have E1 := Lib.hid hE1
  clear hE1
  go_wp2_with fail
  refine (C3.out _ _ _ (RL.out.ext E1.out) (RR.out.ext E1.out)).mono ?_; rintro e w2 ⟨rfl, hE2⟩
  have E2 := Lib.hid (E1.out.trans hE2)
  clear hE2
  go_wp2_with fail
  refine (C4.out _ _ _ (RL.out.ext E2.out) (RR.out.ext E2.out)).mono ?_; rintro e w3 ⟨rfl, hE3⟩
  have E3 := Lib.hid (E2.out.trans hE3)
  clear hE3
  have hX : Ext w3 (((w3.alloc (.cells #[.int .i64 1, .int .i64 z, sv []] 34)).alloc (.cells #[.int .i64 1, .int .i64 x, sv []] 34)).alloc (.cells #[.int .i64 pk, .int .i64 pn, sv []] 34)) := (((Ext.refl _).alloc _ _).alloc _ _).alloc _ _
  have q0 := (E3.out.trans hX).keeps R0.out
  have q1 := (E3.out.trans hX).keeps R1.out
  have q2 := (E3.out.trans hX).keeps R2.out
  have HX := Lib.hid (E3.out.trans hX)
  have hs3 : w.heap.size + 1 < w3.heap.size := by have := E3.out.2.2; rw [alsz, alsz] at this; omega
  clear hX
  go_wp2_with fail
  go_quiet (fail)
  go_wp2_with fail
  refine (C5.out _ _ _ (RL.out.ext (ext_drewN HX.out _)) (RR.out.ext (ext_drewN HX.out _))).mono ?_; rintro e w4 ⟨rfl, hE4⟩
  have E4 := Lib.hid ((ext_drewN HX.out _).trans hE4)
  clear hE4 q0 q1 q2
  go_wp2_with fail
  refine (C6.out _ _ _ (RL.out.ext E4.out) (RR.out.ext E4.out)).mono ?_; rintro e w5 ⟨rfl, hE5⟩
  have E5 := Lib.hid (E4.out.trans hE5)
  clear hE5
  have hX5 : Ext w5 ((w5.alloc (.cells #[.int .i64 3, .int .i64 ln, sv []] 34)).alloc (.cells #[.int .i64 3, .int .i64 en, sv []] 34)) := ((Ext.refl _).alloc _ _).alloc _ _
  have E5' := Lib.hid (E5.out.trans hX5)
  have a0 := al_c w5 #[.int .i64 3, .int .i64 ln, sv []] 34 0 _ rfl
  have a1 := al_c w5 #[.int .i64 3, .int .i64 ln, sv []] 34 1 _ rfl
  have A0 := Lib.hid (((Ext.refl _).alloc #[.int .i64 3, .int .i64 en, sv []] 34).keeps a0)
  have A1 := Lib.hid (((Ext.refl _).alloc #[.int .i64 3, .int .i64 en, sv []] 34).keeps a1)
  have b0 := al_c (w5.alloc (.cells #[.int .i64 3, .int .i64 ln, sv []] 34)) #[.int .i64 3, .int .i64 en, sv []] 34 0 _ rfl
  have b1 := al_c (w5.alloc (.cells #[.int .i64 3, .int .i64 ln, sv []] 34)) #[.int .i64 3, .int .i64 en, sv []] 34 1 _ rfl
  rw [alsz] at b0 b1
  have B0 := Lib.hid b0
  have B1 := Lib.hid b1
  clear hX5 a0 a1 b0 b1
  go_wp2_with fail
  refine (awake_law _).mono ?_; rintro e w6 ⟨rfl, hE6⟩
  have k0 := hE6.keeps A0.out
  have k1 := hE6.keeps A1.out
  have j0 := hE6.keeps B0.out
  have j1 := hE6.keeps B1.out
  have E6 := Lib.hid ((EW.out.trans E5'.out).trans hE6)
  clear hE6
  go_wp2_with fail
  go_ret
  exact ⟨by simp, E6.out⟩
end Go.Proofs.Ytdamlnfjhpmpmaa
