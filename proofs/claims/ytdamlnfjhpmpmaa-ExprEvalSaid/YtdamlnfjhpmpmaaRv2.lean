/- The reference's value of one expression: connectives. -/
import Derived.Test.YtdamlnfjhpmpmaaRv1
namespace Go.Proofs.Ytdamlnfjhpmpmaa
open Go.ChangeShapes Go.WideShapes Go.ChangeAt Go.RowKit


theorem bx4 {w w1 : World} (A B C D : Array Value) (t u v x : TypeId) (h : Ext ((((w.alloc (.cells A t)).alloc (.cells B u)).alloc (.cells C v)).alloc (.cells D x)) w1) :
    (∀ j y, A[j]? = some y → w1.cell? ⟨w.heap.size, j, none⟩ = some y) ∧ (∀ j y, B[j]? = some y → w1.cell? ⟨w.heap.size + 1, j, none⟩ = some y) ∧ (∀ j y, C[j]? = some y → w1.cell? ⟨w.heap.size + 1 + 1, j, none⟩ = some y) ∧ (∀ j y, D[j]? = some y → w1.cell? ⟨w.heap.size + 1 + 1 + 1, j, none⟩ = some y) ∧
    (∀ j, w1.frozen? ⟨w.heap.size, j, none⟩ = false) ∧ w.heap.size + 1 + 1 + 1 < w1.heap.size ∧ Ext w w1 := by
  have e1 : Ext (w.alloc (.cells A t)) w1 := ((((Ext.refl _).alloc _ _).alloc _ _).alloc _ _).trans h
  have e2 : Ext ((w.alloc (.cells A t)).alloc (.cells B u)) w1 := (((Ext.refl _).alloc _ _).alloc _ _).trans h
  have e3 : Ext (((w.alloc (.cells A t)).alloc (.cells B u)).alloc (.cells C v)) w1 := ((Ext.refl _).alloc _ _).trans h
  refine ⟨fun j y hy => e1.keeps (al_c w A t j y hy), fun j y hy => ?_, fun j y hy => ?_, fun j y hy => ?_, fun j => ?_, ?_, ((Ext.refl _).alloc _ _).trans e1⟩
  · have := e2.keeps (al_c _ B u j y hy); rw [alsz] at this; exact this
  · have := e3.keeps (al_c _ C v j y hy); rw [alsz, alsz] at this; exact this
  · have := h.keeps (al_c _ D x j y hy); rw [alsz, alsz, alsz] at this; exact this
  · have := e1.2.1 ⟨w.heap.size, j, none⟩ (by rw [alsz]; show w.heap.size < w.heap.size + 1; omega)
    rw [this, frozen?_alloc_cells]; exact frozen_new _ _ _ (Nat.le_refl _)
  · have := h.2.2; rw [alsz, alsz, alsz, alsz] at this; omega
set_option maxHeartbeats 4000000 in
set_option maxRecDepth 100000 in
theorem evlR_8 (l : List X) (k : Nat) (row D : List V) (vl vr vd : Value) (w : World) (hl : RdG w vl l) (hr : RdG w vr row) (hd : RdG w vd D) (hk : k < l.length) (hD : k ≤ D.length) (ho : l[k].op = 8) (hb : lgl l[k] k = true) :
    Calls Try.prog 26 #[vl, .int .i64 k, vr, vd] w fun e w' => e = .returned (vv (evO l[k] (D.take k) row)) ∧ Ext w w' := by
  obtain ⟨al, cl, rfl, l1, l2⟩ := hl.shape
  obtain ⟨ar, cr, rfl, lr1, lr2⟩ := hr.shape
  obtain ⟨ad, cd, rfl, ld1, ld2⟩ := hd.shape
  obtain ⟨g, o, rfl, c0, c1, c2, c3, c4, c5, c6⟩ := rd_X hl k hk
  have hgl : g < w.heap.size := World.block_lt_of_cell? _ _ c0
  have hA := ari_ref l[k].op
  have hL := fun w' (e : Ext w w') => lgl_ref l k _ w' (hl.ext e) hk
  have hi0 : (0 : Int) ≤ (k : Int) := by omega
  have hi1 : (k : Int) < (l.length : Int) := by omega
  have hpl : (D.take k).length = k := by rw [List.length_take]; omega
  have hpre : ∀ j : Nat, j < k → atV (D.take k) j = atV D j := fun j hj => take_getD D k j _ hj
  generalize D.take k = pre at hpl hpre ⊢
  generalize l[k] = x at *
  obtain ⟨op, a, b, col, ⟨kk, n, s⟩⟩ := x
  simp only at c0 c1 c2 c3 c4 c5 c6 hA ho
  unfold maxLen at l2 lr2 ld2
  have HD := Lib.hid hd
  have HR := Lib.hid hr
  clear hl hr hd
  subst ho
  have ho2 : ari 8 = 2 := by decide
  rw [ho2] at hA
  have hx := lgA_lt (lgA_of hb (show 1 ≤ ari 8 by rw [ho2]; decide))
  have hy := lgB_lt (lgB_of hb ho2)
  simp only at hx hy
  obtain ⟨j, rfl⟩ := nat_of hx.1
  obtain ⟨i, rfl⟩ := nat_of hy.1
  have hj : j < D.length := by omega
  have hi : i < D.length := by omega
  have hjl : (j : Int) < (D.length : Int) := by omega
  have hil : (i : Int) < (D.length : Int) := by omega
  have hja : atV pre j = D[j] := by rw [hpre j (by omega), atV_at _ _ hj]
  have hia : atV pre i = D[i] := by rw [hpre i (by omega), atV_at _ _ hi]
  obtain ⟨g2, o2, rfl, d0, d1, d2⟩ := rd_V HD.out j hj
  obtain ⟨g3, o3, e3, f0, f1, f2⟩ := rd_V HD.out i hi
  simp only [Option.some.injEq, Addr.mk.injEq, and_true] at e3
  obtain ⟨rfl, rfl⟩ := e3
  have hg2 : g2 < w.heap.size := World.block_lt_of_cell? _ _ d0
  skip
  generalize D[j] = va at *
  generalize D[i] = vb at *
  obtain ⟨p, q, t⟩ := va
  obtain ⟨p2, q2, t2⟩ := vb
  simp only at d0 d1 d2 f0 f1 f2
  have hE4 : Ext w ((((w.alloc (.cells #[.int .i64 0, .int .i64 0, .string ⟨#[]⟩] 34)).alloc (.cells #[.int .i64 8, .int .i64 j, .int .i64 i, .int .i64 col, .int .i64 kk, .int .i64 n, sv s] 44)).alloc (.cells #[.int .i64 0, .int .i64 0, .string ⟨#[]⟩] 34)).alloc (.cells #[.int .i64 0, .int .i64 0, .string ⟨#[]⟩] 34)) := ((((Ext.refl w).alloc _ _).alloc _ _).alloc _ _).alloc _ _
  have hE4a : Ext w ((((w.alloc (.cells #[.int .i64 0, .int .i64 0, .string ⟨#[]⟩] 34)).alloc (.cells #[.int .i64 8, .int .i64 j, .int .i64 i, .int .i64 col, .int .i64 kk, .int .i64 n, sv s] 44)).alloc (.cells #[.int .i64 p, .int .i64 q, sv t] 34)).alloc (.cells #[.int .i64 0, .int .i64 0, .string ⟨#[]⟩] 34)) := ((((Ext.refl w).alloc _ _).alloc _ _).alloc _ _).alloc _ _
  have D0 := hE4.keeps d0
  have D1 := hE4.keeps d1
  have D2 := hE4.keeps d2
  have F0 := hE4a.keeps f0
  have F1 := hE4a.keeps f1
  have F2 := hE4a.keeps f2
  clear d0 d1 d2 f0 f1 f2 hE4 hE4a
  rw [hb] at hL
  have hH : evO ⟨8, j, i, col, ⟨kk, n, s⟩⟩ pre row = booV (truB ⟨p, q, t⟩ && truB ⟨p2, q2, t2⟩) := by
    unfold evO; rw [hpl, if_neg (by rw [hb]; decide), if_neg (show ¬ (8 : Int) = 1 by decide), if_neg (show ¬ (8 : Int) = 2 by decide), if_neg (show ¬ (3 ≤ (8 : Int) ∧ (8 : Int) ≤ 5) by decide), if_pos (show 6 ≤ (8 : Int) ∧ (8 : Int) ≤ 9 by decide)]; simp only; rw [hja, hia]; try rfl
  have HL := Lib.hid hL
  have HA := Lib.hid hA
  clear hA hL hb hpre hpl hja hia hx hy ho2
  cases hta : truB ⟨p, q, t⟩ with
  | true =>
    cases htb : truB ⟨p2, q2, t2⟩ with
    | true =>
      have hb1 := tru_ref ⟨p, q, t⟩
      rw [hta] at hb1
      have HB1 := Lib.hid hb1
      have hb2 := tru_ref ⟨p2, q2, t2⟩
      rw [htb] at hb2
      have HB2 := Lib.hid hb2
      have H := Lib.hid (hH.trans (show booV (truB ⟨p, q, t⟩ && truB ⟨p2, q2, t2⟩) = (booV true) by rw [hta, htb]; rfl))
      clear hb1 hH hta hb2 htb
      go_enter Try.func26, Try.ntmps26
      go_wp2_with fail
      refine (HA.out _).mono ?_; rintro e w1 ⟨rfl, rfl⟩
      go_wp2_with fail
      refine (HL.out _ (((Ext.refl _).alloc _ _).alloc _ _)).mono ?_; rintro e w1 ⟨rfl, rfl⟩
      go_wp2_with fail
      refine (HB1.out _).mono ?_; rintro e w2 ⟨rfl, hg⟩
      have E2 := Lib.hid (ext_of_grown hg)
      obtain ⟨ka, -, kc, kd, kf, ks, kE⟩ := bx4 _ _ _ _ _ _ _ _ E2.out
      have k0 := ka 0 (.int .i64 0) rfl
      have k1 := ka 1 (.int .i64 0) rfl
      have k2 := ka 2 (.string ⟨#[]⟩) rfl
      have y0 := kf 0
      have y1 := kf 1
      have y2 := kf 2
      have m0 := kd 0 _ rfl
      have m1 := kd 1 _ rfl
      have m2 := kd 2 _ rfl
      have n0 := kc 0 _ rfl
      have n1 := kc 1 _ rfl
      have n2 := kc 2 _ rfl
      clear ka kc kd kf
      have KE := Lib.hid kE
      clear kE
      clear hg
      go_wp2_with fail
      refine (HB2.out _).mono ?_; rintro e w3 ⟨rfl, hg⟩
      have E3 := Lib.hid (E2.out.trans (ext_of_grown hg))
      clear k0 k1 k2 y0 y1 y2 m0 m1 m2 n0 n1 n2 ks KE hg
      obtain ⟨ka, -, kc, kd, kf, ks, kE⟩ := bx4 _ _ _ _ _ _ _ _ E3.out
      have k0 := ka 0 (.int .i64 0) rfl
      have k1 := ka 1 (.int .i64 0) rfl
      have k2 := ka 2 (.string ⟨#[]⟩) rfl
      have y0 := kf 0
      have y1 := kf 1
      have y2 := kf 2
      have m0 := kd 0 _ rfl
      have m1 := kd 1 _ rfl
      have m2 := kd 2 _ rfl
      have n0 := kc 0 _ rfl
      have n1 := kc 1 _ rfl
      have n2 := kc 2 _ rfl
      clear ka kc kd kf
      have KE := Lib.hid kE
      clear kE
      go_wp2_with fail
      clear k0 k1 k2 y0 y1 y2 m0 m1 m2 n0 n1 n2 ks KE
      refine (boo_ref true _).mono ?_; rintro e w9 ⟨rfl, hE9⟩
      have hX := E3.out.trans hE9
      obtain ⟨ka, -, kc, kd, kf, ks, kE⟩ := bx4 _ _ _ _ _ _ _ _ hX
      have k0 := ka 0 (.int .i64 0) rfl
      have k1 := ka 1 (.int .i64 0) rfl
      have k2 := ka 2 (.string ⟨#[]⟩) rfl
      have y0 := kf 0
      have y1 := kf 1
      have y2 := kf 2
      have m0 := kd 0 _ rfl
      have m1 := kd 1 _ rfl
      have m2 := kd 2 _ rfl
      have n0 := kc 0 _ rfl
      have n1 := kc 1 _ rfl
      have n2 := kc 2 _ rfl
      clear ka kc kd kf
      have KE := Lib.hid kE
      clear kE
      go_wp2_with fail
      try simp only [Exit.inBlock, Exit.then]
      exact bodyPost_ret (v := vv (booV true)) (by simp [results, Try.results26, go_sem, k0, k1, k2]) rfl ⟨ret_vv H.out.symm, by repeat (first | exact KE.out | refine Ext.alloc ?_ _ _ | refine Ext.setNew ?_ _ _ (by simp; try omega) _)⟩
    | false =>
      have hb1 := tru_ref ⟨p, q, t⟩
      rw [hta] at hb1
      have HB1 := Lib.hid hb1
      have hb2 := tru_ref ⟨p2, q2, t2⟩
      rw [htb] at hb2
      have HB2 := Lib.hid hb2
      have H := Lib.hid (hH.trans (show booV (truB ⟨p, q, t⟩ && truB ⟨p2, q2, t2⟩) = (booV false) by rw [hta, htb]; rfl))
      clear hb1 hH hta hb2 htb
      go_enter Try.func26, Try.ntmps26
      go_wp2_with fail
      refine (HA.out _).mono ?_; rintro e w1 ⟨rfl, rfl⟩
      go_wp2_with fail
      refine (HL.out _ (((Ext.refl _).alloc _ _).alloc _ _)).mono ?_; rintro e w1 ⟨rfl, rfl⟩
      go_wp2_with fail
      refine (HB1.out _).mono ?_; rintro e w2 ⟨rfl, hg⟩
      have E2 := Lib.hid (ext_of_grown hg)
      obtain ⟨ka, -, kc, kd, kf, ks, kE⟩ := bx4 _ _ _ _ _ _ _ _ E2.out
      have k0 := ka 0 (.int .i64 0) rfl
      have k1 := ka 1 (.int .i64 0) rfl
      have k2 := ka 2 (.string ⟨#[]⟩) rfl
      have y0 := kf 0
      have y1 := kf 1
      have y2 := kf 2
      have m0 := kd 0 _ rfl
      have m1 := kd 1 _ rfl
      have m2 := kd 2 _ rfl
      have n0 := kc 0 _ rfl
      have n1 := kc 1 _ rfl
      have n2 := kc 2 _ rfl
      clear ka kc kd kf
      have KE := Lib.hid kE
      clear kE
      clear hg
      go_wp2_with fail
      refine (HB2.out _).mono ?_; rintro e w3 ⟨rfl, hg⟩
      have E3 := Lib.hid (E2.out.trans (ext_of_grown hg))
      clear k0 k1 k2 y0 y1 y2 m0 m1 m2 n0 n1 n2 ks KE hg
      obtain ⟨ka, -, kc, kd, kf, ks, kE⟩ := bx4 _ _ _ _ _ _ _ _ E3.out
      have k0 := ka 0 (.int .i64 0) rfl
      have k1 := ka 1 (.int .i64 0) rfl
      have k2 := ka 2 (.string ⟨#[]⟩) rfl
      have y0 := kf 0
      have y1 := kf 1
      have y2 := kf 2
      have m0 := kd 0 _ rfl
      have m1 := kd 1 _ rfl
      have m2 := kd 2 _ rfl
      have n0 := kc 0 _ rfl
      have n1 := kc 1 _ rfl
      have n2 := kc 2 _ rfl
      clear ka kc kd kf
      have KE := Lib.hid kE
      clear kE
      go_wp2_with fail
      clear k0 k1 k2 y0 y1 y2 m0 m1 m2 n0 n1 n2 ks KE
      refine (boo_ref false _).mono ?_; rintro e w9 ⟨rfl, hE9⟩
      have hX := E3.out.trans hE9
      obtain ⟨ka, -, kc, kd, kf, ks, kE⟩ := bx4 _ _ _ _ _ _ _ _ hX
      have k0 := ka 0 (.int .i64 0) rfl
      have k1 := ka 1 (.int .i64 0) rfl
      have k2 := ka 2 (.string ⟨#[]⟩) rfl
      have y0 := kf 0
      have y1 := kf 1
      have y2 := kf 2
      have m0 := kd 0 _ rfl
      have m1 := kd 1 _ rfl
      have m2 := kd 2 _ rfl
      have n0 := kc 0 _ rfl
      have n1 := kc 1 _ rfl
      have n2 := kc 2 _ rfl
      clear ka kc kd kf
      have KE := Lib.hid kE
      clear kE
      go_wp2_with fail
      try simp only [Exit.inBlock, Exit.then]
      exact bodyPost_ret (v := vv (booV false)) (by simp [results, Try.results26, go_sem, k0, k1, k2]) rfl ⟨ret_vv H.out.symm, by repeat (first | exact KE.out | refine Ext.alloc ?_ _ _ | refine Ext.setNew ?_ _ _ (by simp; try omega) _)⟩
  | false =>
    have hb1 := tru_ref ⟨p, q, t⟩
    rw [hta] at hb1
    have HB1 := Lib.hid hb1
    have H := Lib.hid (hH.trans (show booV (truB ⟨p, q, t⟩ && truB ⟨p2, q2, t2⟩) = (booV false) by rw [hta]; rfl))
    clear hb1 hH hta
    go_enter Try.func26, Try.ntmps26
    go_wp2_with fail
    refine (HA.out _).mono ?_; rintro e w1 ⟨rfl, rfl⟩
    go_wp2_with fail
    refine (HL.out _ (((Ext.refl _).alloc _ _).alloc _ _)).mono ?_; rintro e w1 ⟨rfl, rfl⟩
    go_wp2_with fail
    refine (HB1.out _).mono ?_; rintro e w2 ⟨rfl, hg⟩
    have E2 := Lib.hid (ext_of_grown hg)
    obtain ⟨ka, -, kc, kd, kf, ks, kE⟩ := bx4 _ _ _ _ _ _ _ _ E2.out
    have k0 := ka 0 (.int .i64 0) rfl
    have k1 := ka 1 (.int .i64 0) rfl
    have k2 := ka 2 (.string ⟨#[]⟩) rfl
    have y0 := kf 0
    have y1 := kf 1
    have y2 := kf 2
    have m0 := kd 0 _ rfl
    have m1 := kd 1 _ rfl
    have m2 := kd 2 _ rfl
    have n0 := kc 0 _ rfl
    have n1 := kc 1 _ rfl
    have n2 := kc 2 _ rfl
    clear ka kc kd kf
    have KE := Lib.hid kE
    clear kE
    clear hg
    go_wp2_with fail
    clear k0 k1 k2 y0 y1 y2 m0 m1 m2 n0 n1 n2 ks KE
    refine (boo_ref false _).mono ?_; rintro e w9 ⟨rfl, hE9⟩
    have hX := E2.out.trans hE9
    obtain ⟨ka, -, kc, kd, kf, ks, kE⟩ := bx4 _ _ _ _ _ _ _ _ hX
    have k0 := ka 0 (.int .i64 0) rfl
    have k1 := ka 1 (.int .i64 0) rfl
    have k2 := ka 2 (.string ⟨#[]⟩) rfl
    have y0 := kf 0
    have y1 := kf 1
    have y2 := kf 2
    have m0 := kd 0 _ rfl
    have m1 := kd 1 _ rfl
    have m2 := kd 2 _ rfl
    have n0 := kc 0 _ rfl
    have n1 := kc 1 _ rfl
    have n2 := kc 2 _ rfl
    clear ka kc kd kf
    have KE := Lib.hid kE
    clear kE
    go_wp2_with fail
    try simp only [Exit.inBlock, Exit.then]
    exact bodyPost_ret (v := vv (booV false)) (by simp [results, Try.results26, go_sem, k0, k1, k2]) rfl ⟨ret_vv H.out.symm, by repeat (first | exact KE.out | refine Ext.alloc ?_ _ _ | refine Ext.setNew ?_ _ _ (by simp; try omega) _)⟩
end Go.Proofs.Ytdamlnfjhpmpmaa
