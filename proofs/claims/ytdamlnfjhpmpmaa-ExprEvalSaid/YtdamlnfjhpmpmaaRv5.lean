/- The reference's value of one expression: arithmetic. -/
import Derived.Test.YtdamlnfjhpmpmaaRv2
namespace Go.Proofs.Ytdamlnfjhpmpmaa
open Go.ChangeShapes Go.WideShapes Go.ChangeAt Go.RowKit


set_option maxHeartbeats 4000000 in
set_option maxRecDepth 100000 in
theorem evlR_3 (l : List X) (k : Nat) (row D : List V) (vl vr vd : Value) (w : World) (hl : RdG w vl l) (hr : RdG w vr row) (hd : RdG w vd D) (hk : k < l.length) (hD : k ≤ D.length) (ho : l[k].op = 3) (hb : lgl l[k] k = true) (okD : OkR D) :
    Calls Try.prog 26 #[vl, .int .i64 k, vr, vd] w fun e w' => e = .returned (vv (evO l[k] (D.take k) row)) ∧ Ext w w' := by
  obtain ⟨al, cl, rfl, l1, l2⟩ := hl.shape
  obtain ⟨ar, cr, rfl, lr1, lr2⟩ := hr.shape
  obtain ⟨ad, cd, rfl, ld1, ld2⟩ := hd.shape
  obtain ⟨g, o, rfl, c0, c1, c2, c3, c4, c5, c6⟩ := rd_X hl k hk
  have hgl : g < w.heap.size := World.block_lt_of_cell? _ _ c0
  have hA := ari_ref l[k].op
  have hL := fun w' (e : Ext w w') => lgl_ref l k _ w' (hl.ext e) hk
  have hi0 : (0 : Int) ≤ (k : Int) := by omega
  have hi1 : (k : Int) < (l.length : Int) := by omega
  have hpl : (D.take k).length = k := by rw [List.length_take]; omega
  have hpre : ∀ j : Nat, j < k → atV (D.take k) j = atV D j := fun j hj => take_getD D k j _ hj
  generalize D.take k = pre at hpl hpre ⊢
  generalize l[k] = x at *
  obtain ⟨op, a, b, col, ⟨kk, n, s⟩⟩ := x
  simp only at c0 c1 c2 c3 c4 c5 c6 hA ho
  unfold maxLen at l2 lr2 ld2
  have HD := Lib.hid hd
  have HR := Lib.hid hr
  clear hl hr hd
  subst ho
  have ho2 : ari 3 = 2 := by decide
  rw [ho2] at hA
  have hx := lgA_lt (lgA_of hb (show 1 ≤ ari 3 by rw [ho2]; decide))
  have hy := lgB_lt (lgB_of hb ho2)
  simp only at hx hy
  obtain ⟨j, rfl⟩ := nat_of hx.1
  obtain ⟨i, rfl⟩ := nat_of hy.1
  have hj : j < D.length := by omega
  have hi : i < D.length := by omega
  have hjl : (j : Int) < (D.length : Int) := by omega
  have hil : (i : Int) < (D.length : Int) := by omega
  have hja : atV pre j = D[j] := by rw [hpre j (by omega), atV_at _ _ hj]
  have hia : atV pre i = D[i] := by rw [hpre i (by omega), atV_at _ _ hi]
  obtain ⟨g2, o2, rfl, d0, d1, d2⟩ := rd_V HD.out j hj
  obtain ⟨g3, o3, e3, f0, f1, f2⟩ := rd_V HD.out i hi
  simp only [Option.some.injEq, Addr.mk.injEq, and_true] at e3
  obtain ⟨rfl, rfl⟩ := e3
  have hg2 : g2 < w.heap.size := World.block_lt_of_cell? _ _ d0
  have ok1 : okN D[j].n := okD _ (List.getElem_mem _)
  have ok2 : okN D[i].n := okD _ (List.getElem_mem _)
  generalize D[j] = va at *
  generalize D[i] = vb at *
  obtain ⟨p, q, t⟩ := va
  obtain ⟨p2, q2, t2⟩ := vb
  simp only at d0 d1 d2 f0 f1 f2
  have hE4 : Ext w ((((w.alloc (.cells #[.int .i64 0, .int .i64 0, .string ⟨#[]⟩] 34)).alloc (.cells #[.int .i64 3, .int .i64 j, .int .i64 i, .int .i64 col, .int .i64 kk, .int .i64 n, sv s] 44)).alloc (.cells #[.int .i64 0, .int .i64 0, .string ⟨#[]⟩] 34)).alloc (.cells #[.int .i64 0, .int .i64 0, .string ⟨#[]⟩] 34)) := ((((Ext.refl w).alloc _ _).alloc _ _).alloc _ _).alloc _ _
  have hE4a : Ext w ((((w.alloc (.cells #[.int .i64 0, .int .i64 0, .string ⟨#[]⟩] 34)).alloc (.cells #[.int .i64 3, .int .i64 j, .int .i64 i, .int .i64 col, .int .i64 kk, .int .i64 n, sv s] 44)).alloc (.cells #[.int .i64 p, .int .i64 q, sv t] 34)).alloc (.cells #[.int .i64 0, .int .i64 0, .string ⟨#[]⟩] 34)) := ((((Ext.refl w).alloc _ _).alloc _ _).alloc _ _).alloc _ _
  have D0 := hE4.keeps d0
  have D1 := hE4.keeps d1
  have D2 := hE4.keeps d2
  have F0 := hE4a.keeps f0
  have F1 := hE4a.keeps f1
  have F2 := hE4a.keeps f2
  clear d0 d1 d2 f0 f1 f2 hE4 hE4a
  rw [hb] at hL
  have hH : evO ⟨3, j, i, col, ⟨kk, n, s⟩⟩ pre row = calV 3 ⟨p, q, t⟩ ⟨p2, q2, t2⟩ := by
    unfold evO; rw [hpl, if_neg (by rw [hb]; decide), if_neg (show ¬ (3 : Int) = 1 by decide), if_neg (show ¬ (3 : Int) = 2 by decide), if_pos (show 3 ≤ (3 : Int) ∧ (3 : Int) ≤ 5 by decide)]; simp only; rw [hja, hia]
  have HL := Lib.hid hL
  have HA := Lib.hid hA
  clear hA hL hb hpre hpl hja hia hx hy ho2
  have hC := cal_ref 3 (by decide) ⟨p, q, t⟩ ⟨p2, q2, t2⟩ ok1 ok2
  generalize calV 3 ⟨p, q, t⟩ ⟨p2, q2, t2⟩ = res at *
  obtain ⟨rk, rn, rs⟩ := res
  have H := Lib.hid hH
  have HC := Lib.hid hC
  clear hC hH ok1 ok2 okD
  go_enter Try.func26, Try.ntmps26
  go_wp2_with fail
  refine (HA.out _).mono ?_; rintro e w1 ⟨rfl, rfl⟩
  go_wp2_with fail
  refine (HL.out _ (((Ext.refl _).alloc _ _).alloc _ _)).mono ?_; rintro e w1 ⟨rfl, rfl⟩
  go_wp2_with fail
  refine (HC.out _).mono ?_; rintro e w9 ⟨rfl, hE9⟩
  have hX := hE9
  obtain ⟨ka, -, kc, kd, kf, ks, kE⟩ := bx4 _ _ _ _ _ _ _ _ hX
  have k0 := ka 0 (.int .i64 0) rfl
  have k1 := ka 1 (.int .i64 0) rfl
  have k2 := ka 2 (.string ⟨#[]⟩) rfl
  have y0 := kf 0
  have y1 := kf 1
  have y2 := kf 2
  have m0 := kd 0 _ rfl
  have m1 := kd 1 _ rfl
  have m2 := kd 2 _ rfl
  have n0 := kc 0 _ rfl
  have n1 := kc 1 _ rfl
  have n2 := kc 2 _ rfl
  clear ka kc kd kf
  have KE := Lib.hid kE
  clear kE
  go_wp2_with fail
  try simp only [Exit.inBlock, Exit.then]
  exact bodyPost_ret (v := vv ⟨rk, rn, rs⟩) (by simp [results, Try.results26, go_sem, k0, k1, k2]) rfl ⟨ret_vv H.out.symm, by repeat (first | exact KE.out | refine Ext.alloc ?_ _ _ | refine Ext.setNew ?_ _ _ (by simp; try omega) _)⟩
set_option maxHeartbeats 4000000 in
set_option maxRecDepth 100000 in
theorem evlR_4 (l : List X) (k : Nat) (row D : List V) (vl vr vd : Value) (w : World) (hl : RdG w vl l) (hr : RdG w vr row) (hd : RdG w vd D) (hk : k < l.length) (hD : k ≤ D.length) (ho : l[k].op = 4) (hb : lgl l[k] k = true) (okD : OkR D) :
    Calls Try.prog 26 #[vl, .int .i64 k, vr, vd] w fun e w' => e = .returned (vv (evO l[k] (D.take k) row)) ∧ Ext w w' := by
  obtain ⟨al, cl, rfl, l1, l2⟩ := hl.shape
  obtain ⟨ar, cr, rfl, lr1, lr2⟩ := hr.shape
  obtain ⟨ad, cd, rfl, ld1, ld2⟩ := hd.shape
  obtain ⟨g, o, rfl, c0, c1, c2, c3, c4, c5, c6⟩ := rd_X hl k hk
  have hgl : g < w.heap.size := World.block_lt_of_cell? _ _ c0
  have hA := ari_ref l[k].op
  have hL := fun w' (e : Ext w w') => lgl_ref l k _ w' (hl.ext e) hk
  have hi0 : (0 : Int) ≤ (k : Int) := by omega
  have hi1 : (k : Int) < (l.length : Int) := by omega
  have hpl : (D.take k).length = k := by rw [List.length_take]; omega
  have hpre : ∀ j : Nat, j < k → atV (D.take k) j = atV D j := fun j hj => take_getD D k j _ hj
  generalize D.take k = pre at hpl hpre ⊢
  generalize l[k] = x at *
  obtain ⟨op, a, b, col, ⟨kk, n, s⟩⟩ := x
  simp only at c0 c1 c2 c3 c4 c5 c6 hA ho
  unfold maxLen at l2 lr2 ld2
  have HD := Lib.hid hd
  have HR := Lib.hid hr
  clear hl hr hd
  subst ho
  have ho2 : ari 4 = 2 := by decide
  rw [ho2] at hA
  have hx := lgA_lt (lgA_of hb (show 1 ≤ ari 4 by rw [ho2]; decide))
  have hy := lgB_lt (lgB_of hb ho2)
  simp only at hx hy
  obtain ⟨j, rfl⟩ := nat_of hx.1
  obtain ⟨i, rfl⟩ := nat_of hy.1
  have hj : j < D.length := by omega
  have hi : i < D.length := by omega
  have hjl : (j : Int) < (D.length : Int) := by omega
  have hil : (i : Int) < (D.length : Int) := by omega
  have hja : atV pre j = D[j] := by rw [hpre j (by omega), atV_at _ _ hj]
  have hia : atV pre i = D[i] := by rw [hpre i (by omega), atV_at _ _ hi]
  obtain ⟨g2, o2, rfl, d0, d1, d2⟩ := rd_V HD.out j hj
  obtain ⟨g3, o3, e3, f0, f1, f2⟩ := rd_V HD.out i hi
  simp only [Option.some.injEq, Addr.mk.injEq, and_true] at e3
  obtain ⟨rfl, rfl⟩ := e3
  have hg2 : g2 < w.heap.size := World.block_lt_of_cell? _ _ d0
  have ok1 : okN D[j].n := okD _ (List.getElem_mem _)
  have ok2 : okN D[i].n := okD _ (List.getElem_mem _)
  generalize D[j] = va at *
  generalize D[i] = vb at *
  obtain ⟨p, q, t⟩ := va
  obtain ⟨p2, q2, t2⟩ := vb
  simp only at d0 d1 d2 f0 f1 f2
  have hE4 : Ext w ((((w.alloc (.cells #[.int .i64 0, .int .i64 0, .string ⟨#[]⟩] 34)).alloc (.cells #[.int .i64 4, .int .i64 j, .int .i64 i, .int .i64 col, .int .i64 kk, .int .i64 n, sv s] 44)).alloc (.cells #[.int .i64 0, .int .i64 0, .string ⟨#[]⟩] 34)).alloc (.cells #[.int .i64 0, .int .i64 0, .string ⟨#[]⟩] 34)) := ((((Ext.refl w).alloc _ _).alloc _ _).alloc _ _).alloc _ _
  have hE4a : Ext w ((((w.alloc (.cells #[.int .i64 0, .int .i64 0, .string ⟨#[]⟩] 34)).alloc (.cells #[.int .i64 4, .int .i64 j, .int .i64 i, .int .i64 col, .int .i64 kk, .int .i64 n, sv s] 44)).alloc (.cells #[.int .i64 p, .int .i64 q, sv t] 34)).alloc (.cells #[.int .i64 0, .int .i64 0, .string ⟨#[]⟩] 34)) := ((((Ext.refl w).alloc _ _).alloc _ _).alloc _ _).alloc _ _
  have D0 := hE4.keeps d0
  have D1 := hE4.keeps d1
  have D2 := hE4.keeps d2
  have F0 := hE4a.keeps f0
  have F1 := hE4a.keeps f1
  have F2 := hE4a.keeps f2
  clear d0 d1 d2 f0 f1 f2 hE4 hE4a
  rw [hb] at hL
  have hH : evO ⟨4, j, i, col, ⟨kk, n, s⟩⟩ pre row = calV 4 ⟨p, q, t⟩ ⟨p2, q2, t2⟩ := by
    unfold evO; rw [hpl, if_neg (by rw [hb]; decide), if_neg (show ¬ (4 : Int) = 1 by decide), if_neg (show ¬ (4 : Int) = 2 by decide), if_pos (show 3 ≤ (4 : Int) ∧ (4 : Int) ≤ 5 by decide)]; simp only; rw [hja, hia]
  have HL := Lib.hid hL
  have HA := Lib.hid hA
  clear hA hL hb hpre hpl hja hia hx hy ho2
  have hC := cal_ref 4 (by decide) ⟨p, q, t⟩ ⟨p2, q2, t2⟩ ok1 ok2
  generalize calV 4 ⟨p, q, t⟩ ⟨p2, q2, t2⟩ = res at *
  obtain ⟨rk, rn, rs⟩ := res
  have H := Lib.hid hH
  have HC := Lib.hid hC
  clear hC hH ok1 ok2 okD
  go_enter Try.func26, Try.ntmps26
  go_wp2_with fail
  refine (HA.out _).mono ?_; rintro e w1 ⟨rfl, rfl⟩
  go_wp2_with fail
  refine (HL.out _ (((Ext.refl _).alloc _ _).alloc _ _)).mono ?_; rintro e w1 ⟨rfl, rfl⟩
  go_wp2_with fail
  refine (HC.out _).mono ?_; rintro e w9 ⟨rfl, hE9⟩
  have hX := hE9
  obtain ⟨ka, -, kc, kd, kf, ks, kE⟩ := bx4 _ _ _ _ _ _ _ _ hX
  have k0 := ka 0 (.int .i64 0) rfl
  have k1 := ka 1 (.int .i64 0) rfl
  have k2 := ka 2 (.string ⟨#[]⟩) rfl
  have y0 := kf 0
  have y1 := kf 1
  have y2 := kf 2
  have m0 := kd 0 _ rfl
  have m1 := kd 1 _ rfl
  have m2 := kd 2 _ rfl
  have n0 := kc 0 _ rfl
  have n1 := kc 1 _ rfl
  have n2 := kc 2 _ rfl
  clear ka kc kd kf
  have KE := Lib.hid kE
  clear kE
  go_wp2_with fail
  try simp only [Exit.inBlock, Exit.then]
  exact bodyPost_ret (v := vv ⟨rk, rn, rs⟩) (by simp [results, Try.results26, go_sem, k0, k1, k2]) rfl ⟨ret_vv H.out.symm, by repeat (first | exact KE.out | refine Ext.alloc ?_ _ _ | refine Ext.setNew ?_ _ _ (by simp; try omega) _)⟩
set_option maxHeartbeats 4000000 in
set_option maxRecDepth 100000 in
theorem evlR_5 (l : List X) (k : Nat) (row D : List V) (vl vr vd : Value) (w : World) (hl : RdG w vl l) (hr : RdG w vr row) (hd : RdG w vd D) (hk : k < l.length) (hD : k ≤ D.length) (ho : l[k].op = 5) (hb : lgl l[k] k = true) (okD : OkR D) :
    Calls Try.prog 26 #[vl, .int .i64 k, vr, vd] w fun e w' => e = .returned (vv (evO l[k] (D.take k) row)) ∧ Ext w w' := by
  obtain ⟨al, cl, rfl, l1, l2⟩ := hl.shape
  obtain ⟨ar, cr, rfl, lr1, lr2⟩ := hr.shape
  obtain ⟨ad, cd, rfl, ld1, ld2⟩ := hd.shape
  obtain ⟨g, o, rfl, c0, c1, c2, c3, c4, c5, c6⟩ := rd_X hl k hk
  have hgl : g < w.heap.size := World.block_lt_of_cell? _ _ c0
  have hA := ari_ref l[k].op
  have hL := fun w' (e : Ext w w') => lgl_ref l k _ w' (hl.ext e) hk
  have hi0 : (0 : Int) ≤ (k : Int) := by omega
  have hi1 : (k : Int) < (l.length : Int) := by omega
  have hpl : (D.take k).length = k := by rw [List.length_take]; omega
  have hpre : ∀ j : Nat, j < k → atV (D.take k) j = atV D j := fun j hj => take_getD D k j _ hj
  generalize D.take k = pre at hpl hpre ⊢
  generalize l[k] = x at *
  obtain ⟨op, a, b, col, ⟨kk, n, s⟩⟩ := x
  simp only at c0 c1 c2 c3 c4 c5 c6 hA ho
  unfold maxLen at l2 lr2 ld2
  have HD := Lib.hid hd
  have HR := Lib.hid hr
  clear hl hr hd
  subst ho
  have ho2 : ari 5 = 2 := by decide
  rw [ho2] at hA
  have hx := lgA_lt (lgA_of hb (show 1 ≤ ari 5 by rw [ho2]; decide))
  have hy := lgB_lt (lgB_of hb ho2)
  simp only at hx hy
  obtain ⟨j, rfl⟩ := nat_of hx.1
  obtain ⟨i, rfl⟩ := nat_of hy.1
  have hj : j < D.length := by omega
  have hi : i < D.length := by omega
  have hjl : (j : Int) < (D.length : Int) := by omega
  have hil : (i : Int) < (D.length : Int) := by omega
  have hja : atV pre j = D[j] := by rw [hpre j (by omega), atV_at _ _ hj]
  have hia : atV pre i = D[i] := by rw [hpre i (by omega), atV_at _ _ hi]
  obtain ⟨g2, o2, rfl, d0, d1, d2⟩ := rd_V HD.out j hj
  obtain ⟨g3, o3, e3, f0, f1, f2⟩ := rd_V HD.out i hi
  simp only [Option.some.injEq, Addr.mk.injEq, and_true] at e3
  obtain ⟨rfl, rfl⟩ := e3
  have hg2 : g2 < w.heap.size := World.block_lt_of_cell? _ _ d0
  have ok1 : okN D[j].n := okD _ (List.getElem_mem _)
  have ok2 : okN D[i].n := okD _ (List.getElem_mem _)
  generalize D[j] = va at *
  generalize D[i] = vb at *
  obtain ⟨p, q, t⟩ := va
  obtain ⟨p2, q2, t2⟩ := vb
  simp only at d0 d1 d2 f0 f1 f2
  have hE4 : Ext w ((((w.alloc (.cells #[.int .i64 0, .int .i64 0, .string ⟨#[]⟩] 34)).alloc (.cells #[.int .i64 5, .int .i64 j, .int .i64 i, .int .i64 col, .int .i64 kk, .int .i64 n, sv s] 44)).alloc (.cells #[.int .i64 0, .int .i64 0, .string ⟨#[]⟩] 34)).alloc (.cells #[.int .i64 0, .int .i64 0, .string ⟨#[]⟩] 34)) := ((((Ext.refl w).alloc _ _).alloc _ _).alloc _ _).alloc _ _
  have hE4a : Ext w ((((w.alloc (.cells #[.int .i64 0, .int .i64 0, .string ⟨#[]⟩] 34)).alloc (.cells #[.int .i64 5, .int .i64 j, .int .i64 i, .int .i64 col, .int .i64 kk, .int .i64 n, sv s] 44)).alloc (.cells #[.int .i64 p, .int .i64 q, sv t] 34)).alloc (.cells #[.int .i64 0, .int .i64 0, .string ⟨#[]⟩] 34)) := ((((Ext.refl w).alloc _ _).alloc _ _).alloc _ _).alloc _ _
  have D0 := hE4.keeps d0
  have D1 := hE4.keeps d1
  have D2 := hE4.keeps d2
  have F0 := hE4a.keeps f0
  have F1 := hE4a.keeps f1
  have F2 := hE4a.keeps f2
  clear d0 d1 d2 f0 f1 f2 hE4 hE4a
  rw [hb] at hL
  have hH : evO ⟨5, j, i, col, ⟨kk, n, s⟩⟩ pre row = calV 5 ⟨p, q, t⟩ ⟨p2, q2, t2⟩ := by
    unfold evO; rw [hpl, if_neg (by rw [hb]; decide), if_neg (show ¬ (5 : Int) = 1 by decide), if_neg (show ¬ (5 : Int) = 2 by decide), if_pos (show 3 ≤ (5 : Int) ∧ (5 : Int) ≤ 5 by decide)]; simp only; rw [hja, hia]
  have HL := Lib.hid hL
  have HA := Lib.hid hA
  clear hA hL hb hpre hpl hja hia hx hy ho2
  have hC := cal_ref 5 (by decide) ⟨p, q, t⟩ ⟨p2, q2, t2⟩ ok1 ok2
  generalize calV 5 ⟨p, q, t⟩ ⟨p2, q2, t2⟩ = res at *
  obtain ⟨rk, rn, rs⟩ := res
  have H := Lib.hid hH
  have HC := Lib.hid hC
  clear hC hH ok1 ok2 okD
  go_enter Try.func26, Try.ntmps26
  go_wp2_with fail
  refine (HA.out _).mono ?_; rintro e w1 ⟨rfl, rfl⟩
  go_wp2_with fail
  refine (HL.out _ (((Ext.refl _).alloc _ _).alloc _ _)).mono ?_; rintro e w1 ⟨rfl, rfl⟩
  go_wp2_with fail
  refine (HC.out _).mono ?_; rintro e w9 ⟨rfl, hE9⟩
  have hX := hE9
  obtain ⟨ka, -, kc, kd, kf, ks, kE⟩ := bx4 _ _ _ _ _ _ _ _ hX
  have k0 := ka 0 (.int .i64 0) rfl
  have k1 := ka 1 (.int .i64 0) rfl
  have k2 := ka 2 (.string ⟨#[]⟩) rfl
  have y0 := kf 0
  have y1 := kf 1
  have y2 := kf 2
  have m0 := kd 0 _ rfl
  have m1 := kd 1 _ rfl
  have m2 := kd 2 _ rfl
  have n0 := kc 0 _ rfl
  have n1 := kc 1 _ rfl
  have n2 := kc 2 _ rfl
  clear ka kc kd kf
  have KE := Lib.hid kE
  clear kE
  go_wp2_with fail
  try simp only [Exit.inBlock, Exit.then]
  exact bodyPost_ret (v := vv ⟨rk, rn, rs⟩) (by simp [results, Try.results26, go_sem, k0, k1, k2]) rfl ⟨ret_vv H.out.symm, by repeat (first | exact KE.out | refine Ext.alloc ?_ _ _ | refine Ext.setNew ?_ _ _ (by simp; try omega) _)⟩
end Go.Proofs.Ytdamlnfjhpmpmaa
