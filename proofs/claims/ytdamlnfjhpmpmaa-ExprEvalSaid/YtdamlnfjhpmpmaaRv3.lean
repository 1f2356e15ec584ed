/- The reference's value of one expression: one operand. -/
import Derived.Test.YtdamlnfjhpmpmaaRv2
namespace Go.Proofs.Ytdamlnfjhpmpmaa
open Go.ChangeShapes Go.WideShapes Go.ChangeAt Go.RowKit


set_option maxHeartbeats 4000000 in
set_option maxRecDepth 100000 in
theorem evlR_10 (l : List X) (k : Nat) (row D : List V) (vl vr vd : Value) (w : World) (hl : RdG w vl l) (hr : RdG w vr row) (hd : RdG w vd D) (hk : k < l.length) (hD : k ≤ D.length) (ho : l[k].op = 10) (hb : lgl l[k] k = true) :
    Calls Try.prog 26 #[vl, .int .i64 k, vr, vd] w fun e w' => e = .returned (vv (evO l[k] (D.take k) row)) ∧ Ext w w' := by
  obtain ⟨al, cl, rfl, l1, l2⟩ := hl.shape
  obtain ⟨ar, cr, rfl, lr1, lr2⟩ := hr.shape
  obtain ⟨ad, cd, rfl, ld1, ld2⟩ := hd.shape
  obtain ⟨g, o, rfl, c0, c1, c2, c3, c4, c5, c6⟩ := rd_X hl k hk
  have hgl : g < w.heap.size := World.block_lt_of_cell? _ _ c0
  have hA := ari_ref l[k].op
  have hL := fun w' (e : Ext w w') => lgl_ref l k _ w' (hl.ext e) hk
  have hi0 : (0 : Int) ≤ (k : Int) := by omega
  have hi1 : (k : Int) < (l.length : Int) := by omega
  have hpl : (D.take k).length = k := by rw [List.length_take]; omega
  have hpre : ∀ j : Nat, j < k → atV (D.take k) j = atV D j := fun j hj => take_getD D k j _ hj
  generalize D.take k = pre at hpl hpre ⊢
  generalize l[k] = x at *
  obtain ⟨op, a, b, col, ⟨kk, n, s⟩⟩ := x
  simp only at c0 c1 c2 c3 c4 c5 c6 hA ho
  unfold maxLen at l2 lr2 ld2
  have HD := Lib.hid hd
  have HR := Lib.hid hr
  clear hl hr hd
  subst ho
  have ho2 : ari 10 = 1 := by decide
  rw [ho2] at hA
  have hx := lgA_lt (lgA_of hb (show 1 ≤ ari 10 by rw [ho2]; decide))
  simp only at hx
  obtain ⟨j, rfl⟩ := nat_of hx.1
  have hj : j < D.length := by omega
  have hjl : (j : Int) < (D.length : Int) := by omega
  have hja : atV pre j = D[j] := by rw [hpre j (by omega), atV_at _ _ hj]
  obtain ⟨g2, o2, rfl, d0, d1, d2⟩ := rd_V HD.out j hj
  have hg2 : g2 < w.heap.size := World.block_lt_of_cell? _ _ d0
  generalize D[j] = va at *
  obtain ⟨p, q, t⟩ := va
  simp only at d0 d1 d2
  have hE4 : Ext w ((((w.alloc (.cells #[.int .i64 0, .int .i64 0, .string ⟨#[]⟩] 34)).alloc (.cells #[.int .i64 10, .int .i64 j, .int .i64 b, .int .i64 col, .int .i64 kk, .int .i64 n, sv s] 44)).alloc (.cells #[.int .i64 0, .int .i64 0, .string ⟨#[]⟩] 34)).alloc (.cells #[.int .i64 0, .int .i64 0, .string ⟨#[]⟩] 34)) := ((((Ext.refl w).alloc _ _).alloc _ _).alloc _ _).alloc _ _
  have D0 := hE4.keeps d0
  have D1 := hE4.keeps d1
  have D2 := hE4.keeps d2
  clear d0 d1 d2 hE4
  rw [hb] at hL
  have hH : evO ⟨10, j, b, col, ⟨kk, n, s⟩⟩ pre row = booV (!truB ⟨p, q, t⟩) := by
    unfold evO; rw [hpl, if_neg (by rw [hb]; decide), if_neg (show ¬ (10 : Int) = 1 by decide), if_neg (show ¬ (10 : Int) = 2 by decide), if_neg (show ¬ (3 ≤ (10 : Int) ∧ (10 : Int) ≤ 5) by decide), if_neg (show ¬ (6 ≤ (10 : Int) ∧ (10 : Int) ≤ 9) by decide), if_pos rfl]; simp only; rw [hja]
  have HL := Lib.hid hL
  have HA := Lib.hid hA
  clear hA hL hb hpre hpl hja hx ho2
  cases hta : truB ⟨p, q, t⟩ with
  | true =>
    have hb1 := tru_ref ⟨p, q, t⟩
    rw [hta] at hb1
    have HB1 := Lib.hid hb1
    have H := Lib.hid (hH.trans (show booV (!truB ⟨p, q, t⟩) = (booV false) by rw [hta]; rfl))
    clear hb1 hH hta
    go_enter Try.func26, Try.ntmps26
    go_wp2_with fail
    refine (HA.out _).mono ?_; rintro e w1 ⟨rfl, rfl⟩
    go_wp2_with fail
    refine (HL.out _ (((Ext.refl _).alloc _ _).alloc _ _)).mono ?_; rintro e w1 ⟨rfl, rfl⟩
    go_wp2_with fail
    refine (HB1.out _).mono ?_; rintro e w2 ⟨rfl, hg⟩
    have E2 := Lib.hid (ext_of_grown hg)
    obtain ⟨ka, -, kc, kd, kf, ks, kE⟩ := bx4 _ _ _ _ _ _ _ _ E2.out
    have k0 := ka 0 (.int .i64 0) rfl
    have k1 := ka 1 (.int .i64 0) rfl
    have k2 := ka 2 (.string ⟨#[]⟩) rfl
    have y0 := kf 0
    have y1 := kf 1
    have y2 := kf 2
    have m0 := kd 0 _ rfl
    have m1 := kd 1 _ rfl
    have m2 := kd 2 _ rfl
    have n0 := kc 0 _ rfl
    have n1 := kc 1 _ rfl
    have n2 := kc 2 _ rfl
    clear ka kc kd kf
    have KE := Lib.hid kE
    clear kE
    clear hg
    go_wp2_with fail
    clear k0 k1 k2 y0 y1 y2 m0 m1 m2 n0 n1 n2 ks KE
    refine (boo_ref false _).mono ?_; rintro e w9 ⟨rfl, hE9⟩
    have hX := E2.out.trans hE9
    obtain ⟨ka, -, kc, kd, kf, ks, kE⟩ := bx4 _ _ _ _ _ _ _ _ hX
    have k0 := ka 0 (.int .i64 0) rfl
    have k1 := ka 1 (.int .i64 0) rfl
    have k2 := ka 2 (.string ⟨#[]⟩) rfl
    have y0 := kf 0
    have y1 := kf 1
    have y2 := kf 2
    have m0 := kd 0 _ rfl
    have m1 := kd 1 _ rfl
    have m2 := kd 2 _ rfl
    have n0 := kc 0 _ rfl
    have n1 := kc 1 _ rfl
    have n2 := kc 2 _ rfl
    clear ka kc kd kf
    have KE := Lib.hid kE
    clear kE
    go_wp2_with fail
    try simp only [Exit.inBlock, Exit.then]
    exact bodyPost_ret (v := vv (booV false)) (by simp [results, Try.results26, go_sem, k0, k1, k2]) rfl ⟨ret_vv H.out.symm, by repeat (first | exact KE.out | refine Ext.alloc ?_ _ _ | refine Ext.setNew ?_ _ _ (by simp; try omega) _)⟩
  | false =>
    have hb1 := tru_ref ⟨p, q, t⟩
    rw [hta] at hb1
    have HB1 := Lib.hid hb1
    have H := Lib.hid (hH.trans (show booV (!truB ⟨p, q, t⟩) = (booV true) by rw [hta]; rfl))
    clear hb1 hH hta
    go_enter Try.func26, Try.ntmps26
    go_wp2_with fail
    refine (HA.out _).mono ?_; rintro e w1 ⟨rfl, rfl⟩
    go_wp2_with fail
    refine (HL.out _ (((Ext.refl _).alloc _ _).alloc _ _)).mono ?_; rintro e w1 ⟨rfl, rfl⟩
    go_wp2_with fail
    refine (HB1.out _).mono ?_; rintro e w2 ⟨rfl, hg⟩
    have E2 := Lib.hid (ext_of_grown hg)
    obtain ⟨ka, -, kc, kd, kf, ks, kE⟩ := bx4 _ _ _ _ _ _ _ _ E2.out
    have k0 := ka 0 (.int .i64 0) rfl
    have k1 := ka 1 (.int .i64 0) rfl
    have k2 := ka 2 (.string ⟨#[]⟩) rfl
    have y0 := kf 0
    have y1 := kf 1
    have y2 := kf 2
    have m0 := kd 0 _ rfl
    have m1 := kd 1 _ rfl
    have m2 := kd 2 _ rfl
    have n0 := kc 0 _ rfl
    have n1 := kc 1 _ rfl
    have n2 := kc 2 _ rfl
    clear ka kc kd kf
    have KE := Lib.hid kE
    clear kE
    clear hg
    go_wp2_with fail
    clear k0 k1 k2 y0 y1 y2 m0 m1 m2 n0 n1 n2 ks KE
    refine (boo_ref true _).mono ?_; rintro e w9 ⟨rfl, hE9⟩
    have hX := E2.out.trans hE9
    obtain ⟨ka, -, kc, kd, kf, ks, kE⟩ := bx4 _ _ _ _ _ _ _ _ hX
    have k0 := ka 0 (.int .i64 0) rfl
    have k1 := ka 1 (.int .i64 0) rfl
    have k2 := ka 2 (.string ⟨#[]⟩) rfl
    have y0 := kf 0
    have y1 := kf 1
    have y2 := kf 2
    have m0 := kd 0 _ rfl
    have m1 := kd 1 _ rfl
    have m2 := kd 2 _ rfl
    have n0 := kc 0 _ rfl
    have n1 := kc 1 _ rfl
    have n2 := kc 2 _ rfl
    clear ka kc kd kf
    have KE := Lib.hid kE
    clear kE
    go_wp2_with fail
    try simp only [Exit.inBlock, Exit.then]
    exact bodyPost_ret (v := vv (booV true)) (by simp [results, Try.results26, go_sem, k0, k1, k2]) rfl ⟨ret_vv H.out.symm, by repeat (first | exact KE.out | refine Ext.alloc ?_ _ _ | refine Ext.setNew ?_ _ _ (by simp; try omega) _)⟩
set_option maxHeartbeats 4000000 in
set_option maxRecDepth 100000 in
theorem evlR_11 (l : List X) (k : Nat) (row D : List V) (vl vr vd : Value) (w : World) (hl : RdG w vl l) (hr : RdG w vr row) (hd : RdG w vd D) (hk : k < l.length) (hD : k ≤ D.length) (ho : l[k].op = 11) (hb : lgl l[k] k = true) :
    Calls Try.prog 26 #[vl, .int .i64 k, vr, vd] w fun e w' => e = .returned (vv (evO l[k] (D.take k) row)) ∧ Ext w w' := by
  obtain ⟨al, cl, rfl, l1, l2⟩ := hl.shape
  obtain ⟨ar, cr, rfl, lr1, lr2⟩ := hr.shape
  obtain ⟨ad, cd, rfl, ld1, ld2⟩ := hd.shape
  obtain ⟨g, o, rfl, c0, c1, c2, c3, c4, c5, c6⟩ := rd_X hl k hk
  have hgl : g < w.heap.size := World.block_lt_of_cell? _ _ c0
  have hA := ari_ref l[k].op
  have hL := fun w' (e : Ext w w') => lgl_ref l k _ w' (hl.ext e) hk
  have hi0 : (0 : Int) ≤ (k : Int) := by omega
  have hi1 : (k : Int) < (l.length : Int) := by omega
  have hpl : (D.take k).length = k := by rw [List.length_take]; omega
  have hpre : ∀ j : Nat, j < k → atV (D.take k) j = atV D j := fun j hj => take_getD D k j _ hj
  generalize D.take k = pre at hpl hpre ⊢
  generalize l[k] = x at *
  obtain ⟨op, a, b, col, ⟨kk, n, s⟩⟩ := x
  simp only at c0 c1 c2 c3 c4 c5 c6 hA ho
  unfold maxLen at l2 lr2 ld2
  have HD := Lib.hid hd
  have HR := Lib.hid hr
  clear hl hr hd
  subst ho
  have ho2 : ari 11 = 1 := by decide
  rw [ho2] at hA
  have hx := lgA_lt (lgA_of hb (show 1 ≤ ari 11 by rw [ho2]; decide))
  simp only at hx
  obtain ⟨j, rfl⟩ := nat_of hx.1
  have hj : j < D.length := by omega
  have hjl : (j : Int) < (D.length : Int) := by omega
  have hja : atV pre j = D[j] := by rw [hpre j (by omega), atV_at _ _ hj]
  obtain ⟨g2, o2, rfl, d0, d1, d2⟩ := rd_V HD.out j hj
  have hg2 : g2 < w.heap.size := World.block_lt_of_cell? _ _ d0
  generalize D[j] = va at *
  obtain ⟨p, q, t⟩ := va
  simp only at d0 d1 d2
  have hE4 : Ext w ((((w.alloc (.cells #[.int .i64 0, .int .i64 0, .string ⟨#[]⟩] 34)).alloc (.cells #[.int .i64 11, .int .i64 j, .int .i64 b, .int .i64 col, .int .i64 kk, .int .i64 n, sv s] 44)).alloc (.cells #[.int .i64 0, .int .i64 0, .string ⟨#[]⟩] 34)).alloc (.cells #[.int .i64 0, .int .i64 0, .string ⟨#[]⟩] 34)) := ((((Ext.refl w).alloc _ _).alloc _ _).alloc _ _).alloc _ _
  have D0 := hE4.keeps d0
  have D1 := hE4.keeps d1
  have D2 := hE4.keeps d2
  clear d0 d1 d2 hE4
  rw [hb] at hL
  have hH : evO ⟨11, j, b, col, ⟨kk, n, s⟩⟩ pre row = booV (decide (p = 0)) := by
    unfold evO; rw [hpl, if_neg (by rw [hb]; decide), if_neg (show ¬ (11 : Int) = 1 by decide), if_neg (show ¬ (11 : Int) = 2 by decide), if_neg (show ¬ (3 ≤ (11 : Int) ∧ (11 : Int) ≤ 5) by decide), if_neg (show ¬ (6 ≤ (11 : Int) ∧ (11 : Int) ≤ 9) by decide), if_neg (show ¬ (11 : Int) = 10 by decide), if_pos rfl]; simp only; rw [hja]
  have HL := Lib.hid hL
  have HA := Lib.hid hA
  clear hA hL hb hpre hpl hja hx ho2
  by_cases hp : p = 0
  · have H := Lib.hid (hH.trans (show booV (decide (p = 0)) = (booV true) by rw [decide_eq_true hp]))
    subst hp
    clear hH
    go_enter Try.func26, Try.ntmps26
    go_wp2_with fail
    refine (HA.out _).mono ?_; rintro e w1 ⟨rfl, rfl⟩
    go_wp2_with fail
    refine (HL.out _ (((Ext.refl _).alloc _ _).alloc _ _)).mono ?_; rintro e w1 ⟨rfl, rfl⟩
    go_wp2_with fail
    refine (boo_ref true _).mono ?_; rintro e w9 ⟨rfl, hE9⟩
    have hX := hE9
    obtain ⟨ka, -, kc, kd, kf, ks, kE⟩ := bx4 _ _ _ _ _ _ _ _ hX
    have k0 := ka 0 (.int .i64 0) rfl
    have k1 := ka 1 (.int .i64 0) rfl
    have k2 := ka 2 (.string ⟨#[]⟩) rfl
    have y0 := kf 0
    have y1 := kf 1
    have y2 := kf 2
    have m0 := kd 0 _ rfl
    have m1 := kd 1 _ rfl
    have m2 := kd 2 _ rfl
    have n0 := kc 0 _ rfl
    have n1 := kc 1 _ rfl
    have n2 := kc 2 _ rfl
    clear ka kc kd kf
    have KE := Lib.hid kE
    clear kE
    go_wp2_with fail
    try simp only [Exit.inBlock, Exit.then]
    exact bodyPost_ret (v := vv (booV true)) (by simp [results, Try.results26, go_sem, k0, k1, k2]) rfl ⟨ret_vv H.out.symm, by repeat (first | exact KE.out | refine Ext.alloc ?_ _ _ | refine Ext.setNew ?_ _ _ (by simp; try omega) _)⟩
  · have H := Lib.hid (hH.trans (show booV (decide (p = 0)) = (booV false) by rw [decide_eq_false hp]))
    have hp' : (p == 0) = false := by simpa using hp
    clear hH
    go_enter Try.func26, Try.ntmps26
    go_wp2_with fail
    refine (HA.out _).mono ?_; rintro e w1 ⟨rfl, rfl⟩
    go_wp2_with fail
    refine (HL.out _ (((Ext.refl _).alloc _ _).alloc _ _)).mono ?_; rintro e w1 ⟨rfl, rfl⟩
    go_wp2_with fail
    refine (boo_ref false _).mono ?_; rintro e w9 ⟨rfl, hE9⟩
    have hX := hE9
    obtain ⟨ka, -, kc, kd, kf, ks, kE⟩ := bx4 _ _ _ _ _ _ _ _ hX
    have k0 := ka 0 (.int .i64 0) rfl
    have k1 := ka 1 (.int .i64 0) rfl
    have k2 := ka 2 (.string ⟨#[]⟩) rfl
    have y0 := kf 0
    have y1 := kf 1
    have y2 := kf 2
    have m0 := kd 0 _ rfl
    have m1 := kd 1 _ rfl
    have m2 := kd 2 _ rfl
    have n0 := kc 0 _ rfl
    have n1 := kc 1 _ rfl
    have n2 := kc 2 _ rfl
    clear ka kc kd kf
    have KE := Lib.hid kE
    clear kE
    go_wp2_with fail
    try simp only [Exit.inBlock, Exit.then]
    exact bodyPost_ret (v := vv (booV false)) (by simp [results, Try.results26, go_sem, k0, k1, k2]) rfl ⟨ret_vv H.out.symm, by repeat (first | exact KE.out | refine Ext.alloc ?_ _ _ | refine Ext.setNew ?_ _ _ (by simp; try omega) _)⟩
end Go.Proofs.Ytdamlnfjhpmpmaa
