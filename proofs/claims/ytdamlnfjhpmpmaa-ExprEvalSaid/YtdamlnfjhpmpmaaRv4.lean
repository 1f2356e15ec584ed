/- The reference's value of one expression: comparisons. -/
import Derived.Test.YtdamlnfjhpmpmaaRv2
namespace Go.Proofs.Ytdamlnfjhpmpmaa
open Go.ChangeShapes Go.WideShapes Go.ChangeAt Go.RowKit


set_option maxHeartbeats 4000000 in
set_option maxRecDepth 100000 in
theorem evlR_6 (l : List X) (k : Nat) (row D : List V) (vl vr vd : Value) (w : World) (hl : RdG w vl l) (hr : RdG w vr row) (hd : RdG w vd D) (hk : k < l.length) (hD : k ≤ D.length) (ho : l[k].op = 6) (hb : lgl l[k] k = true) :
    Calls Try.prog 26 #[vl, .int .i64 k, vr, vd] w fun e w' => e = .returned (vv (evO l[k] (D.take k) row)) ∧ Ext w w' := by
  obtain ⟨al, cl, rfl, l1, l2⟩ := hl.shape
  obtain ⟨ar, cr, rfl, lr1, lr2⟩ := hr.shape
  obtain ⟨ad, cd, rfl, ld1, ld2⟩ := hd.shape
  obtain ⟨g, o, rfl, c0, c1, c2, c3, c4, c5, c6⟩ := rd_X hl k hk
  have hgl : g < w.heap.size := World.block_lt_of_cell? _ _ c0
  have hA := ari_ref l[k].op
  have hL := fun w' (e : Ext w w') => lgl_ref l k _ w' (hl.ext e) hk
  have hi0 : (0 : Int) ≤ (k : Int) := by omega
  have hi1 : (k : Int) < (l.length : Int) := by omega
  have hpl : (D.take k).length = k := by rw [List.length_take]; omega
  have hpre : ∀ j : Nat, j < k → atV (D.take k) j = atV D j := fun j hj => take_getD D k j _ hj
  generalize D.take k = pre at hpl hpre ⊢
  generalize l[k] = x at *
  obtain ⟨op, a, b, col, ⟨kk, n, s⟩⟩ := x
  simp only at c0 c1 c2 c3 c4 c5 c6 hA ho
  unfold maxLen at l2 lr2 ld2
  have HD := Lib.hid hd
  have HR := Lib.hid hr
  clear hl hr hd
  subst ho
  have ho2 : ari 6 = 2 := by decide
  rw [ho2] at hA
  have hx := lgA_lt (lgA_of hb (show 1 ≤ ari 6 by rw [ho2]; decide))
  have hy := lgB_lt (lgB_of hb ho2)
  simp only at hx hy
  obtain ⟨j, rfl⟩ := nat_of hx.1
  obtain ⟨i, rfl⟩ := nat_of hy.1
  have hj : j < D.length := by omega
  have hi : i < D.length := by omega
  have hjl : (j : Int) < (D.length : Int) := by omega
  have hil : (i : Int) < (D.length : Int) := by omega
  have hja : atV pre j = D[j] := by rw [hpre j (by omega), atV_at _ _ hj]
  have hia : atV pre i = D[i] := by rw [hpre i (by omega), atV_at _ _ hi]
  obtain ⟨g2, o2, rfl, d0, d1, d2⟩ := rd_V HD.out j hj
  obtain ⟨g3, o3, e3, f0, f1, f2⟩ := rd_V HD.out i hi
  simp only [Option.some.injEq, Addr.mk.injEq, and_true] at e3
  obtain ⟨rfl, rfl⟩ := e3
  have hg2 : g2 < w.heap.size := World.block_lt_of_cell? _ _ d0
  skip
  generalize D[j] = va at *
  generalize D[i] = vb at *
  obtain ⟨p, q, t⟩ := va
  obtain ⟨p2, q2, t2⟩ := vb
  simp only at d0 d1 d2 f0 f1 f2
  have hE4 : Ext w ((((w.alloc (.cells #[.int .i64 0, .int .i64 0, .string ⟨#[]⟩] 34)).alloc (.cells #[.int .i64 6, .int .i64 j, .int .i64 i, .int .i64 col, .int .i64 kk, .int .i64 n, sv s] 44)).alloc (.cells #[.int .i64 0, .int .i64 0, .string ⟨#[]⟩] 34)).alloc (.cells #[.int .i64 0, .int .i64 0, .string ⟨#[]⟩] 34)) := ((((Ext.refl w).alloc _ _).alloc _ _).alloc _ _).alloc _ _
  have hE4a : Ext w ((((w.alloc (.cells #[.int .i64 0, .int .i64 0, .string ⟨#[]⟩] 34)).alloc (.cells #[.int .i64 6, .int .i64 j, .int .i64 i, .int .i64 col, .int .i64 kk, .int .i64 n, sv s] 44)).alloc (.cells #[.int .i64 p, .int .i64 q, sv t] 34)).alloc (.cells #[.int .i64 0, .int .i64 0, .string ⟨#[]⟩] 34)) := ((((Ext.refl w).alloc _ _).alloc _ _).alloc _ _).alloc _ _
  have D0 := hE4.keeps d0
  have D1 := hE4.keeps d1
  have D2 := hE4.keeps d2
  have F0 := hE4a.keeps f0
  have F1 := hE4a.keeps f1
  have F2 := hE4a.keeps f2
  clear d0 d1 d2 f0 f1 f2 hE4 hE4a
  rw [hb] at hL
  have hH : evO ⟨6, j, i, col, ⟨kk, n, s⟩⟩ pre row = booV (decB 6 ⟨p, q, t⟩ ⟨p2, q2, t2⟩) := by
    unfold evO; rw [hpl, if_neg (by rw [hb]; decide), if_neg (show ¬ (6 : Int) = 1 by decide), if_neg (show ¬ (6 : Int) = 2 by decide), if_neg (show ¬ (3 ≤ (6 : Int) ∧ (6 : Int) ≤ 5) by decide), if_pos (show 6 ≤ (6 : Int) ∧ (6 : Int) ≤ 9 by decide)]; simp only; rw [hja, hia]; try rfl
  have HL := Lib.hid hL
  have HA := Lib.hid hA
  clear hA hL hb hpre hpl hja hia hx hy ho2
  have hC := cmp_ref ⟨p, q, t⟩ ⟨p2, q2, t2⟩
  have hdec : decB 6 ⟨p, q, t⟩ ⟨p2, q2, t2⟩ = decide (p ≠ 0 ∧ cmpV ⟨p, q, t⟩ ⟨p2, q2, t2⟩ = 0) := rfl
  by_cases h1 : p = 0
  · subst h1
    have H := Lib.hid (hH.trans (show booV (decB 6 ⟨0, q, t⟩ ⟨p2, q2, t2⟩) = (booV false) by rw [hdec]; simp))
    clear hC hdec
    clear hH
    go_enter Try.func26, Try.ntmps26
    go_wp2_with fail
    refine (HA.out _).mono ?_; rintro e w1 ⟨rfl, rfl⟩
    go_wp2_with fail
    refine (HL.out _ (((Ext.refl _).alloc _ _).alloc _ _)).mono ?_; rintro e w1 ⟨rfl, rfl⟩
    go_wp2_with fail
    refine (boo_ref false _).mono ?_; rintro e w9 ⟨rfl, hE9⟩
    have hX := hE9
    obtain ⟨ka, -, kc, kd, kf, ks, kE⟩ := bx4 _ _ _ _ _ _ _ _ hX
    have k0 := ka 0 (.int .i64 0) rfl
    have k1 := ka 1 (.int .i64 0) rfl
    have k2 := ka 2 (.string ⟨#[]⟩) rfl
    have y0 := kf 0
    have y1 := kf 1
    have y2 := kf 2
    have m0 := kd 0 _ rfl
    have m1 := kd 1 _ rfl
    have m2 := kd 2 _ rfl
    have n0 := kc 0 _ rfl
    have n1 := kc 1 _ rfl
    have n2 := kc 2 _ rfl
    clear ka kc kd kf
    have KE := Lib.hid kE
    clear kE
    go_wp2_with fail
    try simp only [Exit.inBlock, Exit.then]
    exact bodyPost_ret (v := vv (booV false)) (by simp [results, Try.results26, go_sem, k0, k1, k2]) rfl ⟨ret_vv H.out.symm, by repeat (first | exact KE.out | refine Ext.alloc ?_ _ _ | refine Ext.setNew ?_ _ _ (by simp; try omega) _)⟩
  have h1' : (p == 0) = false := by simpa using h1
  have h1n : (p != 0) = true := by simpa using h1
  by_cases h2 : p2 = 0
  · subst h2
    have H := Lib.hid (hH.trans (show booV (decB 6 ⟨p, q, t⟩ ⟨0, q2, t2⟩) = (booV false) by rw [hdec, decide_eq_false (by rintro ⟨_, h⟩; exact h1 (congrArg V.k ((cv_zero _ _).1 h)))]))
    clear hC hdec
    clear hH
    go_enter Try.func26, Try.ntmps26
    go_wp2_with fail
    refine (HA.out _).mono ?_; rintro e w1 ⟨rfl, rfl⟩
    go_wp2_with fail
    refine (HL.out _ (((Ext.refl _).alloc _ _).alloc _ _)).mono ?_; rintro e w1 ⟨rfl, rfl⟩
    go_wp2_with fail
    refine (boo_ref false _).mono ?_; rintro e w9 ⟨rfl, hE9⟩
    have hX := hE9
    obtain ⟨ka, -, kc, kd, kf, ks, kE⟩ := bx4 _ _ _ _ _ _ _ _ hX
    have k0 := ka 0 (.int .i64 0) rfl
    have k1 := ka 1 (.int .i64 0) rfl
    have k2 := ka 2 (.string ⟨#[]⟩) rfl
    have y0 := kf 0
    have y1 := kf 1
    have y2 := kf 2
    have m0 := kd 0 _ rfl
    have m1 := kd 1 _ rfl
    have m2 := kd 2 _ rfl
    have n0 := kc 0 _ rfl
    have n1 := kc 1 _ rfl
    have n2 := kc 2 _ rfl
    clear ka kc kd kf
    have KE := Lib.hid kE
    clear kE
    go_wp2_with fail
    try simp only [Exit.inBlock, Exit.then]
    exact bodyPost_ret (v := vv (booV false)) (by simp [results, Try.results26, go_sem, k0, k1, k2]) rfl ⟨ret_vv H.out.symm, by repeat (first | exact KE.out | refine Ext.alloc ?_ _ _ | refine Ext.setNew ?_ _ _ (by simp; try omega) _)⟩
  have h2' : (p2 == 0) = false := by simpa using h2
  have h2n : (p2 != 0) = true := by simpa using h2
  generalize cmpV ⟨p, q, t⟩ ⟨p2, q2, t2⟩ = z at *
  by_cases h3 : z = 0
  · subst h3
    have H := Lib.hid (hH.trans (show booV (decB 6 ⟨p, q, t⟩ ⟨p2, q2, t2⟩) = (booV true) by rw [hdec, decide_eq_true ⟨h1, rfl⟩]))
    have HC := Lib.hid hC
    clear hC hdec
    clear hH
    go_enter Try.func26, Try.ntmps26
    go_wp2_with fail
    refine (HA.out _).mono ?_; rintro e w1 ⟨rfl, rfl⟩
    go_wp2_with fail
    refine (HL.out _ (((Ext.refl _).alloc _ _).alloc _ _)).mono ?_; rintro e w1 ⟨rfl, rfl⟩
    go_wp2_with fail
    refine (HC.out _).mono ?_; rintro e w2 ⟨rfl, hg⟩
    have E2 := Lib.hid (ext_of_grown hg)
    obtain ⟨ka, -, kc, kd, kf, ks, kE⟩ := bx4 _ _ _ _ _ _ _ _ E2.out
    have k0 := ka 0 (.int .i64 0) rfl
    have k1 := ka 1 (.int .i64 0) rfl
    have k2 := ka 2 (.string ⟨#[]⟩) rfl
    have y0 := kf 0
    have y1 := kf 1
    have y2 := kf 2
    have m0 := kd 0 _ rfl
    have m1 := kd 1 _ rfl
    have m2 := kd 2 _ rfl
    have n0 := kc 0 _ rfl
    have n1 := kc 1 _ rfl
    have n2 := kc 2 _ rfl
    clear ka kc kd kf
    have KE := Lib.hid kE
    clear kE
    clear hg
    go_wp2_with fail
    clear k0 k1 k2 y0 y1 y2 m0 m1 m2 n0 n1 n2 ks KE
    refine (boo_ref true _).mono ?_; rintro e w9 ⟨rfl, hE9⟩
    have hX := E2.out.trans hE9
    obtain ⟨ka, -, kc, kd, kf, ks, kE⟩ := bx4 _ _ _ _ _ _ _ _ hX
    have k0 := ka 0 (.int .i64 0) rfl
    have k1 := ka 1 (.int .i64 0) rfl
    have k2 := ka 2 (.string ⟨#[]⟩) rfl
    have y0 := kf 0
    have y1 := kf 1
    have y2 := kf 2
    have m0 := kd 0 _ rfl
    have m1 := kd 1 _ rfl
    have m2 := kd 2 _ rfl
    have n0 := kc 0 _ rfl
    have n1 := kc 1 _ rfl
    have n2 := kc 2 _ rfl
    clear ka kc kd kf
    have KE := Lib.hid kE
    clear kE
    go_wp2_with fail
    try simp only [Exit.inBlock, Exit.then]
    exact bodyPost_ret (v := vv (booV true)) (by simp [results, Try.results26, go_sem, k0, k1, k2]) rfl ⟨ret_vv H.out.symm, by repeat (first | exact KE.out | refine Ext.alloc ?_ _ _ | refine Ext.setNew ?_ _ _ (by simp; try omega) _)⟩
  · have h3' : (z == 0) = false := by simpa using h3
    have H := Lib.hid (hH.trans (show booV (decB 6 ⟨p, q, t⟩ ⟨p2, q2, t2⟩) = (booV false) by rw [hdec, decide_eq_false (fun h => h3 h.2)]))
    have HC := Lib.hid hC
    clear hC hdec
    clear hH
    go_enter Try.func26, Try.ntmps26
    go_wp2_with fail
    refine (HA.out _).mono ?_; rintro e w1 ⟨rfl, rfl⟩
    go_wp2_with fail
    refine (HL.out _ (((Ext.refl _).alloc _ _).alloc _ _)).mono ?_; rintro e w1 ⟨rfl, rfl⟩
    go_wp2_with fail
    refine (HC.out _).mono ?_; rintro e w2 ⟨rfl, hg⟩
    have E2 := Lib.hid (ext_of_grown hg)
    obtain ⟨ka, -, kc, kd, kf, ks, kE⟩ := bx4 _ _ _ _ _ _ _ _ E2.out
    have k0 := ka 0 (.int .i64 0) rfl
    have k1 := ka 1 (.int .i64 0) rfl
    have k2 := ka 2 (.string ⟨#[]⟩) rfl
    have y0 := kf 0
    have y1 := kf 1
    have y2 := kf 2
    have m0 := kd 0 _ rfl
    have m1 := kd 1 _ rfl
    have m2 := kd 2 _ rfl
    have n0 := kc 0 _ rfl
    have n1 := kc 1 _ rfl
    have n2 := kc 2 _ rfl
    clear ka kc kd kf
    have KE := Lib.hid kE
    clear kE
    clear hg
    go_wp2_with fail
    clear k0 k1 k2 y0 y1 y2 m0 m1 m2 n0 n1 n2 ks KE
    refine (boo_ref false _).mono ?_; rintro e w9 ⟨rfl, hE9⟩
    have hX := E2.out.trans hE9
    obtain ⟨ka, -, kc, kd, kf, ks, kE⟩ := bx4 _ _ _ _ _ _ _ _ hX
    have k0 := ka 0 (.int .i64 0) rfl
    have k1 := ka 1 (.int .i64 0) rfl
    have k2 := ka 2 (.string ⟨#[]⟩) rfl
    have y0 := kf 0
    have y1 := kf 1
    have y2 := kf 2
    have m0 := kd 0 _ rfl
    have m1 := kd 1 _ rfl
    have m2 := kd 2 _ rfl
    have n0 := kc 0 _ rfl
    have n1 := kc 1 _ rfl
    have n2 := kc 2 _ rfl
    clear ka kc kd kf
    have KE := Lib.hid kE
    clear kE
    go_wp2_with fail
    try simp only [Exit.inBlock, Exit.then]
    exact bodyPost_ret (v := vv (booV false)) (by simp [results, Try.results26, go_sem, k0, k1, k2]) rfl ⟨ret_vv H.out.symm, by repeat (first | exact KE.out | refine Ext.alloc ?_ _ _ | refine Ext.setNew ?_ _ _ (by simp; try omega) _)⟩
set_option maxHeartbeats 4000000 in
set_option maxRecDepth 100000 in
theorem evlR_7 (l : List X) (k : Nat) (row D : List V) (vl vr vd : Value) (w : World) (hl : RdG w vl l) (hr : RdG w vr row) (hd : RdG w vd D) (hk : k < l.length) (hD : k ≤ D.length) (ho : l[k].op = 7) (hb : lgl l[k] k = true) :
    Calls Try.prog 26 #[vl, .int .i64 k, vr, vd] w fun e w' => e = .returned (vv (evO l[k] (D.take k) row)) ∧ Ext w w' := by
  obtain ⟨al, cl, rfl, l1, l2⟩ := hl.shape
  obtain ⟨ar, cr, rfl, lr1, lr2⟩ := hr.shape
  obtain ⟨ad, cd, rfl, ld1, ld2⟩ := hd.shape
  obtain ⟨g, o, rfl, c0, c1, c2, c3, c4, c5, c6⟩ := rd_X hl k hk
  have hgl : g < w.heap.size := World.block_lt_of_cell? _ _ c0
  have hA := ari_ref l[k].op
  have hL := fun w' (e : Ext w w') => lgl_ref l k _ w' (hl.ext e) hk
  have hi0 : (0 : Int) ≤ (k : Int) := by omega
  have hi1 : (k : Int) < (l.length : Int) := by omega
  have hpl : (D.take k).length = k := by rw [List.length_take]; omega
  have hpre : ∀ j : Nat, j < k → atV (D.take k) j = atV D j := fun j hj => take_getD D k j _ hj
  generalize D.take k = pre at hpl hpre ⊢
  generalize l[k] = x at *
  obtain ⟨op, a, b, col, ⟨kk, n, s⟩⟩ := x
  simp only at c0 c1 c2 c3 c4 c5 c6 hA ho
  unfold maxLen at l2 lr2 ld2
  have HD := Lib.hid hd
  have HR := Lib.hid hr
  clear hl hr hd
  subst ho
  have ho2 : ari 7 = 2 := by decide
  rw [ho2] at hA
  have hx := lgA_lt (lgA_of hb (show 1 ≤ ari 7 by rw [ho2]; decide))
  have hy := lgB_lt (lgB_of hb ho2)
  simp only at hx hy
  obtain ⟨j, rfl⟩ := nat_of hx.1
  obtain ⟨i, rfl⟩ := nat_of hy.1
  have hj : j < D.length := by omega
  have hi : i < D.length := by omega
  have hjl : (j : Int) < (D.length : Int) := by omega
  have hil : (i : Int) < (D.length : Int) := by omega
  have hja : atV pre j = D[j] := by rw [hpre j (by omega), atV_at _ _ hj]
  have hia : atV pre i = D[i] := by rw [hpre i (by omega), atV_at _ _ hi]
  obtain ⟨g2, o2, rfl, d0, d1, d2⟩ := rd_V HD.out j hj
  obtain ⟨g3, o3, e3, f0, f1, f2⟩ := rd_V HD.out i hi
  simp only [Option.some.injEq, Addr.mk.injEq, and_true] at e3
  obtain ⟨rfl, rfl⟩ := e3
  have hg2 : g2 < w.heap.size := World.block_lt_of_cell? _ _ d0
  skip
  generalize D[j] = va at *
  generalize D[i] = vb at *
  obtain ⟨p, q, t⟩ := va
  obtain ⟨p2, q2, t2⟩ := vb
  simp only at d0 d1 d2 f0 f1 f2
  have hE4 : Ext w ((((w.alloc (.cells #[.int .i64 0, .int .i64 0, .string ⟨#[]⟩] 34)).alloc (.cells #[.int .i64 7, .int .i64 j, .int .i64 i, .int .i64 col, .int .i64 kk, .int .i64 n, sv s] 44)).alloc (.cells #[.int .i64 0, .int .i64 0, .string ⟨#[]⟩] 34)).alloc (.cells #[.int .i64 0, .int .i64 0, .string ⟨#[]⟩] 34)) := ((((Ext.refl w).alloc _ _).alloc _ _).alloc _ _).alloc _ _
  have hE4a : Ext w ((((w.alloc (.cells #[.int .i64 0, .int .i64 0, .string ⟨#[]⟩] 34)).alloc (.cells #[.int .i64 7, .int .i64 j, .int .i64 i, .int .i64 col, .int .i64 kk, .int .i64 n, sv s] 44)).alloc (.cells #[.int .i64 p, .int .i64 q, sv t] 34)).alloc (.cells #[.int .i64 0, .int .i64 0, .string ⟨#[]⟩] 34)) := ((((Ext.refl w).alloc _ _).alloc _ _).alloc _ _).alloc _ _
  have D0 := hE4.keeps d0
  have D1 := hE4.keeps d1
  have D2 := hE4.keeps d2
  have F0 := hE4a.keeps f0
  have F1 := hE4a.keeps f1
  have F2 := hE4a.keeps f2
  clear d0 d1 d2 f0 f1 f2 hE4 hE4a
  rw [hb] at hL
  have hH : evO ⟨7, j, i, col, ⟨kk, n, s⟩⟩ pre row = booV (decB 7 ⟨p, q, t⟩ ⟨p2, q2, t2⟩) := by
    unfold evO; rw [hpl, if_neg (by rw [hb]; decide), if_neg (show ¬ (7 : Int) = 1 by decide), if_neg (show ¬ (7 : Int) = 2 by decide), if_neg (show ¬ (3 ≤ (7 : Int) ∧ (7 : Int) ≤ 5) by decide), if_pos (show 6 ≤ (7 : Int) ∧ (7 : Int) ≤ 9 by decide)]; simp only; rw [hja, hia]; try rfl
  have HL := Lib.hid hL
  have HA := Lib.hid hA
  clear hA hL hb hpre hpl hja hia hx hy ho2
  have hC := cmp_ref ⟨p, q, t⟩ ⟨p2, q2, t2⟩
  have hdec : decB 7 ⟨p, q, t⟩ ⟨p2, q2, t2⟩ = decide (p = p2 ∧ p ≠ 0 ∧ cmpV ⟨p, q, t⟩ ⟨p2, q2, t2⟩ < 0) := rfl
  by_cases h1 : p = 0
  · subst h1
    have H := Lib.hid (hH.trans (show booV (decB 7 ⟨0, q, t⟩ ⟨p2, q2, t2⟩) = (booV false) by rw [hdec]; simp))
    clear hC hdec
    clear hH
    go_enter Try.func26, Try.ntmps26
    go_wp2_with fail
    refine (HA.out _).mono ?_; rintro e w1 ⟨rfl, rfl⟩
    go_wp2_with fail
    refine (HL.out _ (((Ext.refl _).alloc _ _).alloc _ _)).mono ?_; rintro e w1 ⟨rfl, rfl⟩
    go_wp2_with fail
    refine (boo_ref false _).mono ?_; rintro e w9 ⟨rfl, hE9⟩
    have hX := hE9
    obtain ⟨ka, -, kc, kd, kf, ks, kE⟩ := bx4 _ _ _ _ _ _ _ _ hX
    have k0 := ka 0 (.int .i64 0) rfl
    have k1 := ka 1 (.int .i64 0) rfl
    have k2 := ka 2 (.string ⟨#[]⟩) rfl
    have y0 := kf 0
    have y1 := kf 1
    have y2 := kf 2
    have m0 := kd 0 _ rfl
    have m1 := kd 1 _ rfl
    have m2 := kd 2 _ rfl
    have n0 := kc 0 _ rfl
    have n1 := kc 1 _ rfl
    have n2 := kc 2 _ rfl
    clear ka kc kd kf
    have KE := Lib.hid kE
    clear kE
    go_wp2_with fail
    try simp only [Exit.inBlock, Exit.then]
    exact bodyPost_ret (v := vv (booV false)) (by simp [results, Try.results26, go_sem, k0, k1, k2]) rfl ⟨ret_vv H.out.symm, by repeat (first | exact KE.out | refine Ext.alloc ?_ _ _ | refine Ext.setNew ?_ _ _ (by simp; try omega) _)⟩
  have h1' : (p == 0) = false := by simpa using h1
  have h1n : (p != 0) = true := by simpa using h1
  by_cases h2 : p = p2
  · subst h2
    generalize cmpV ⟨p, q, t⟩ ⟨p, q2, t2⟩ = z at *
    by_cases h3 : z < 0
    · skip
      have H := Lib.hid (hH.trans (show booV (decB 7 ⟨p, q, t⟩ ⟨p, q2, t2⟩) = (booV true) by rw [hdec, decide_eq_true ⟨rfl, h1, h3⟩]))
      have HC := Lib.hid hC
      clear hC hdec
      clear hH
      go_enter Try.func26, Try.ntmps26
      go_wp2_with fail
      refine (HA.out _).mono ?_; rintro e w1 ⟨rfl, rfl⟩
      go_wp2_with fail
      refine (HL.out _ (((Ext.refl _).alloc _ _).alloc _ _)).mono ?_; rintro e w1 ⟨rfl, rfl⟩
      go_wp2_with fail
      refine (HC.out _).mono ?_; rintro e w2 ⟨rfl, hg⟩
      have E2 := Lib.hid (ext_of_grown hg)
      obtain ⟨ka, -, kc, kd, kf, ks, kE⟩ := bx4 _ _ _ _ _ _ _ _ E2.out
      have k0 := ka 0 (.int .i64 0) rfl
      have k1 := ka 1 (.int .i64 0) rfl
      have k2 := ka 2 (.string ⟨#[]⟩) rfl
      have y0 := kf 0
      have y1 := kf 1
      have y2 := kf 2
      have m0 := kd 0 _ rfl
      have m1 := kd 1 _ rfl
      have m2 := kd 2 _ rfl
      have n0 := kc 0 _ rfl
      have n1 := kc 1 _ rfl
      have n2 := kc 2 _ rfl
      clear ka kc kd kf
      have KE := Lib.hid kE
      clear kE
      clear hg
      go_wp2_with fail
      clear k0 k1 k2 y0 y1 y2 m0 m1 m2 n0 n1 n2 ks KE
      refine (boo_ref true _).mono ?_; rintro e w9 ⟨rfl, hE9⟩
      have hX := E2.out.trans hE9
      obtain ⟨ka, -, kc, kd, kf, ks, kE⟩ := bx4 _ _ _ _ _ _ _ _ hX
      have k0 := ka 0 (.int .i64 0) rfl
      have k1 := ka 1 (.int .i64 0) rfl
      have k2 := ka 2 (.string ⟨#[]⟩) rfl
      have y0 := kf 0
      have y1 := kf 1
      have y2 := kf 2
      have m0 := kd 0 _ rfl
      have m1 := kd 1 _ rfl
      have m2 := kd 2 _ rfl
      have n0 := kc 0 _ rfl
      have n1 := kc 1 _ rfl
      have n2 := kc 2 _ rfl
      clear ka kc kd kf
      have KE := Lib.hid kE
      clear kE
      go_wp2_with fail
      try simp only [Exit.inBlock, Exit.then]
      exact bodyPost_ret (v := vv (booV true)) (by simp [results, Try.results26, go_sem, k0, k1, k2]) rfl ⟨ret_vv H.out.symm, by repeat (first | exact KE.out | refine Ext.alloc ?_ _ _ | refine Ext.setNew ?_ _ _ (by simp; try omega) _)⟩
    · skip
      have H := Lib.hid (hH.trans (show booV (decB 7 ⟨p, q, t⟩ ⟨p, q2, t2⟩) = (booV false) by rw [hdec, decide_eq_false (fun h => h3 h.2.2)]))
      have h3' : decide (z < 0) = false := by simpa using h3
      have HC := Lib.hid hC
      clear hC hdec
      clear hH
      go_enter Try.func26, Try.ntmps26
      go_wp2_with fail
      refine (HA.out _).mono ?_; rintro e w1 ⟨rfl, rfl⟩
      go_wp2_with fail
      refine (HL.out _ (((Ext.refl _).alloc _ _).alloc _ _)).mono ?_; rintro e w1 ⟨rfl, rfl⟩
      go_wp2_with fail
      refine (HC.out _).mono ?_; rintro e w2 ⟨rfl, hg⟩
      have E2 := Lib.hid (ext_of_grown hg)
      obtain ⟨ka, -, kc, kd, kf, ks, kE⟩ := bx4 _ _ _ _ _ _ _ _ E2.out
      have k0 := ka 0 (.int .i64 0) rfl
      have k1 := ka 1 (.int .i64 0) rfl
      have k2 := ka 2 (.string ⟨#[]⟩) rfl
      have y0 := kf 0
      have y1 := kf 1
      have y2 := kf 2
      have m0 := kd 0 _ rfl
      have m1 := kd 1 _ rfl
      have m2 := kd 2 _ rfl
      have n0 := kc 0 _ rfl
      have n1 := kc 1 _ rfl
      have n2 := kc 2 _ rfl
      clear ka kc kd kf
      have KE := Lib.hid kE
      clear kE
      clear hg
      go_wp2_with fail
      clear k0 k1 k2 y0 y1 y2 m0 m1 m2 n0 n1 n2 ks KE
      refine (boo_ref false _).mono ?_; rintro e w9 ⟨rfl, hE9⟩
      have hX := E2.out.trans hE9
      obtain ⟨ka, -, kc, kd, kf, ks, kE⟩ := bx4 _ _ _ _ _ _ _ _ hX
      have k0 := ka 0 (.int .i64 0) rfl
      have k1 := ka 1 (.int .i64 0) rfl
      have k2 := ka 2 (.string ⟨#[]⟩) rfl
      have y0 := kf 0
      have y1 := kf 1
      have y2 := kf 2
      have m0 := kd 0 _ rfl
      have m1 := kd 1 _ rfl
      have m2 := kd 2 _ rfl
      have n0 := kc 0 _ rfl
      have n1 := kc 1 _ rfl
      have n2 := kc 2 _ rfl
      clear ka kc kd kf
      have KE := Lib.hid kE
      clear kE
      go_wp2_with fail
      try simp only [Exit.inBlock, Exit.then]
      exact bodyPost_ret (v := vv (booV false)) (by simp [results, Try.results26, go_sem, k0, k1, k2]) rfl ⟨ret_vv H.out.symm, by repeat (first | exact KE.out | refine Ext.alloc ?_ _ _ | refine Ext.setNew ?_ _ _ (by simp; try omega) _)⟩
  · have h2' : (p == p2) = false := by simpa using h2
    have H := Lib.hid (hH.trans (show booV (decB 7 ⟨p, q, t⟩ ⟨p2, q2, t2⟩) = (booV false) by rw [hdec, decide_eq_false (fun h => h2 h.1)]))
    clear hC hdec
    clear hH
    go_enter Try.func26, Try.ntmps26
    go_wp2_with fail
    refine (HA.out _).mono ?_; rintro e w1 ⟨rfl, rfl⟩
    go_wp2_with fail
    refine (HL.out _ (((Ext.refl _).alloc _ _).alloc _ _)).mono ?_; rintro e w1 ⟨rfl, rfl⟩
    go_wp2_with fail
    refine (boo_ref false _).mono ?_; rintro e w9 ⟨rfl, hE9⟩
    have hX := hE9
    obtain ⟨ka, -, kc, kd, kf, ks, kE⟩ := bx4 _ _ _ _ _ _ _ _ hX
    have k0 := ka 0 (.int .i64 0) rfl
    have k1 := ka 1 (.int .i64 0) rfl
    have k2 := ka 2 (.string ⟨#[]⟩) rfl
    have y0 := kf 0
    have y1 := kf 1
    have y2 := kf 2
    have m0 := kd 0 _ rfl
    have m1 := kd 1 _ rfl
    have m2 := kd 2 _ rfl
    have n0 := kc 0 _ rfl
    have n1 := kc 1 _ rfl
    have n2 := kc 2 _ rfl
    clear ka kc kd kf
    have KE := Lib.hid kE
    clear kE
    go_wp2_with fail
    try simp only [Exit.inBlock, Exit.then]
    exact bodyPost_ret (v := vv (booV false)) (by simp [results, Try.results26, go_sem, k0, k1, k2]) rfl ⟨ret_vv H.out.symm, by repeat (first | exact KE.out | refine Ext.alloc ?_ _ _ | refine Ext.setNew ?_ _ _ (by simp; try omega) _)⟩
end Go.Proofs.Ytdamlnfjhpmpmaa
