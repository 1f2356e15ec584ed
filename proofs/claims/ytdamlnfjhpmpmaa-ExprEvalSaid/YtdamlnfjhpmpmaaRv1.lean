/- The reference's value of one expression: constants, columns, what is no operator. -/
import Derived.Test.YtdamlnfjhpmpmaaRc1
import Derived.Test.YtdamlnfjhpmpmaaEv4
import Derived.Test.YtdamlnfjhpmpmaaRe2
namespace Go.Proofs.Ytdamlnfjhpmpmaa
open Go.ChangeShapes Go.WideShapes Go.ChangeAt Go.RowKit


set_option maxHeartbeats 4000000 in
set_option maxRecDepth 100000 in
theorem evlR_none (l : List X) (k : Nat) (row D : List V) (vl vr vd : Value) (w : World) (hl : RdG w vl l) (hr : RdG w vr row) (hd : RdG w vd D) (hk : k < l.length) (hD : k ≤ D.length) (ho : ari l[k].op = -1) :
    Calls Try.prog 26 #[vl, .int .i64 k, vr, vd] w fun e w' => e = .returned (vv (evO l[k] (D.take k) row)) ∧ Ext w w' := by
  obtain ⟨al, cl, rfl, l1, l2⟩ := hl.shape
  obtain ⟨ar, cr, rfl, lr1, lr2⟩ := hr.shape
  obtain ⟨ad, cd, rfl, ld1, ld2⟩ := hd.shape
  obtain ⟨g, o, rfl, c0, c1, c2, c3, c4, c5, c6⟩ := rd_X hl k hk
  have hgl : g < w.heap.size := World.block_lt_of_cell? _ _ c0
  have hA := ari_ref l[k].op
  have hL := fun w' (e : Ext w w') => lgl_ref l k _ w' (hl.ext e) hk
  have hi0 : (0 : Int) ≤ (k : Int) := by omega
  have hi1 : (k : Int) < (l.length : Int) := by omega
  have hpl : (D.take k).length = k := by rw [List.length_take]; omega
  have hpre : ∀ j : Nat, j < k → atV (D.take k) j = atV D j := fun j hj => take_getD D k j _ hj
  generalize D.take k = pre at hpl hpre ⊢
  generalize l[k] = x at *
  obtain ⟨op, a, b, col, ⟨kk, n, s⟩⟩ := x
  simp only at c0 c1 c2 c3 c4 c5 c6 hA ho
  unfold maxLen at l2 lr2 ld2
  have HD := Lib.hid hd
  have HR := Lib.hid hr
  clear hl hr hd
  have H := Lib.hid (show evO ⟨op, a, b, col, ⟨kk, n, s⟩⟩ pre row = ⟨0, 0, []⟩ by
    have h1 : op ≠ 1 := by rintro rfl; exact absurd ho (by decide)
    have h2 : op ≠ 2 := by rintro rfl; exact absurd ho (by decide)
    have h3 : ¬ (3 ≤ op ∧ op ≤ 9) := fun h => by rw [ari_two op h.1 h.2] at ho; exact absurd ho (by decide)
    have h10 : op ≠ 10 := by rintro rfl; exact absurd ho (by decide)
    have h11 : op ≠ 11 := by rintro rfl; exact absurd ho (by decide)
    unfold evO; simp only
    by_cases hq : lgl ⟨op, a, b, col, ⟨kk, n, s⟩⟩ (pre.length : Nat) = false
    · rw [if_pos hq]; rfl
    · rw [if_neg hq, if_neg h1, if_neg h2, if_neg (by omega), if_neg (by omega), if_neg h10, if_neg h11]; rfl)
  rw [ho] at hA
  have HA := Lib.hid hA
  clear hA hL ho hpre hpl
  go_enter Try.func26, Try.ntmps26
  go_wp2_with fail
  refine (HA.out _).mono ?_; rintro e w1 ⟨rfl, rfl⟩
  go_wp2_with fail
  try simp only [Exit.inBlock, Exit.then]
  exact bodyPost_ret (v := vv ⟨0, 0, []⟩) (by simp [results, Try.results26, go_sem]) rfl ⟨ret_vv H.out.symm, by repeat (first | exact Ext.refl _ | refine Ext.alloc ?_ _ _ | refine Ext.setNew ?_ _ _ (by simp; try omega) _)⟩
set_option maxHeartbeats 4000000 in
set_option maxRecDepth 100000 in
theorem evlR_bad (l : List X) (k : Nat) (row D : List V) (vl vr vd : Value) (w : World) (hl : RdG w vl l) (hr : RdG w vr row) (hd : RdG w vd D) (hk : k < l.length) (hD : k ≤ D.length) (ho : ari l[k].op = 1 ∨ ari l[k].op = 2) (hb : lgl l[k] k = false) :
    Calls Try.prog 26 #[vl, .int .i64 k, vr, vd] w fun e w' => e = .returned (vv (evO l[k] (D.take k) row)) ∧ Ext w w' := by
  obtain ⟨al, cl, rfl, l1, l2⟩ := hl.shape
  obtain ⟨ar, cr, rfl, lr1, lr2⟩ := hr.shape
  obtain ⟨ad, cd, rfl, ld1, ld2⟩ := hd.shape
  obtain ⟨g, o, rfl, c0, c1, c2, c3, c4, c5, c6⟩ := rd_X hl k hk
  have hgl : g < w.heap.size := World.block_lt_of_cell? _ _ c0
  have hA := ari_ref l[k].op
  have hL := fun w' (e : Ext w w') => lgl_ref l k _ w' (hl.ext e) hk
  have hi0 : (0 : Int) ≤ (k : Int) := by omega
  have hi1 : (k : Int) < (l.length : Int) := by omega
  have hpl : (D.take k).length = k := by rw [List.length_take]; omega
  have hpre : ∀ j : Nat, j < k → atV (D.take k) j = atV D j := fun j hj => take_getD D k j _ hj
  generalize D.take k = pre at hpl hpre ⊢
  generalize l[k] = x at *
  obtain ⟨op, a, b, col, ⟨kk, n, s⟩⟩ := x
  simp only at c0 c1 c2 c3 c4 c5 c6 hA ho
  unfold maxLen at l2 lr2 ld2
  have HD := Lib.hid hd
  have HR := Lib.hid hr
  clear hl hr hd
  have H := Lib.hid (show evO ⟨op, a, b, col, ⟨kk, n, s⟩⟩ pre row = ⟨0, 0, []⟩ by unfold evO; rw [hpl, if_pos hb]; rfl)
  rw [hb] at hL
  have HL := Lib.hid hL
  generalize ari op = r at *
  have hr : ¬ r < 0 := by omega
  have hr' : decide (r < 0) = false := by simpa using hr
  have HA := Lib.hid hA
  clear hA hL hb ho hpre hpl
  go_enter Try.func26, Try.ntmps26
  go_wp2_with fail
  refine (HA.out _).mono ?_; rintro e w1 ⟨rfl, rfl⟩
  go_wp2_with fail
  refine (HL.out _ (((Ext.refl _).alloc _ _).alloc _ _)).mono ?_; rintro e w1 ⟨rfl, rfl⟩
  go_wp2_with fail
  try simp only [Exit.inBlock, Exit.then]
  exact bodyPost_ret (v := vv ⟨0, 0, []⟩) (by simp [results, Try.results26, go_sem]) rfl ⟨ret_vv H.out.symm, by repeat (first | exact Ext.refl _ | refine Ext.alloc ?_ _ _ | refine Ext.setNew ?_ _ _ (by simp; try omega) _)⟩
set_option maxHeartbeats 4000000 in
set_option maxRecDepth 100000 in
theorem evlR_1 (l : List X) (k : Nat) (row D : List V) (vl vr vd : Value) (w : World) (hl : RdG w vl l) (hr : RdG w vr row) (hd : RdG w vd D) (hk : k < l.length) (hD : k ≤ D.length) (ho : l[k].op = 1) :
    Calls Try.prog 26 #[vl, .int .i64 k, vr, vd] w fun e w' => e = .returned (vv (evO l[k] (D.take k) row)) ∧ Ext w w' := by
  obtain ⟨al, cl, rfl, l1, l2⟩ := hl.shape
  obtain ⟨ar, cr, rfl, lr1, lr2⟩ := hr.shape
  obtain ⟨ad, cd, rfl, ld1, ld2⟩ := hd.shape
  obtain ⟨g, o, rfl, c0, c1, c2, c3, c4, c5, c6⟩ := rd_X hl k hk
  have hgl : g < w.heap.size := World.block_lt_of_cell? _ _ c0
  have hA := ari_ref l[k].op
  have hL := fun w' (e : Ext w w') => lgl_ref l k _ w' (hl.ext e) hk
  have hi0 : (0 : Int) ≤ (k : Int) := by omega
  have hi1 : (k : Int) < (l.length : Int) := by omega
  have hpl : (D.take k).length = k := by rw [List.length_take]; omega
  have hpre : ∀ j : Nat, j < k → atV (D.take k) j = atV D j := fun j hj => take_getD D k j _ hj
  generalize D.take k = pre at hpl hpre ⊢
  generalize l[k] = x at *
  obtain ⟨op, a, b, col, ⟨kk, n, s⟩⟩ := x
  simp only at c0 c1 c2 c3 c4 c5 c6 hA ho
  unfold maxLen at l2 lr2 ld2
  have HD := Lib.hid hd
  have HR := Lib.hid hr
  clear hl hr hd
  subst ho
  have ha : ari 1 = 0 := by decide
  have hll : lgl ⟨1, a, b, col, ⟨kk, n, s⟩⟩ k = true := lgl_none (show ari 1 < 1 by decide)
  have H := Lib.hid (show evO ⟨1, a, b, col, ⟨kk, n, s⟩⟩ pre row = ⟨kk, n, s⟩ by unfold evO; rw [hpl, if_neg (by rw [hll]; decide), if_pos rfl])
  rw [ha] at hA
  rw [hll] at hL
  have HA := Lib.hid hA
  have HL := Lib.hid hL
  clear hA hL hpre hpl hll ha
  go_enter Try.func26, Try.ntmps26
  go_wp2_with fail
  refine (HA.out _).mono ?_; rintro e w1 ⟨rfl, rfl⟩
  go_wp2_with fail
  refine (HL.out _ (((Ext.refl _).alloc _ _).alloc _ _)).mono ?_; rintro e w1 ⟨rfl, rfl⟩
  go_wp2_with fail
  try simp only [Exit.inBlock, Exit.then]
  exact bodyPost_ret (v := vv ⟨kk, n, s⟩) (by simp [results, Try.results26, go_sem]) rfl ⟨ret_vv H.out.symm, by repeat (first | exact Ext.refl _ | refine Ext.alloc ?_ _ _ | refine Ext.setNew ?_ _ _ (by simp; try omega) _)⟩
set_option maxHeartbeats 4000000 in
set_option maxRecDepth 100000 in
theorem evlR_2 (l : List X) (k : Nat) (row D : List V) (vl vr vd : Value) (w : World) (hl : RdG w vl l) (hr : RdG w vr row) (hd : RdG w vd D) (hk : k < l.length) (hD : k ≤ D.length) (ho : l[k].op = 2) :
    Calls Try.prog 26 #[vl, .int .i64 k, vr, vd] w fun e w' => e = .returned (vv (evO l[k] (D.take k) row)) ∧ Ext w w' := by
  obtain ⟨al, cl, rfl, l1, l2⟩ := hl.shape
  obtain ⟨ar, cr, rfl, lr1, lr2⟩ := hr.shape
  obtain ⟨ad, cd, rfl, ld1, ld2⟩ := hd.shape
  obtain ⟨g, o, rfl, c0, c1, c2, c3, c4, c5, c6⟩ := rd_X hl k hk
  have hgl : g < w.heap.size := World.block_lt_of_cell? _ _ c0
  have hA := ari_ref l[k].op
  have hL := fun w' (e : Ext w w') => lgl_ref l k _ w' (hl.ext e) hk
  have hi0 : (0 : Int) ≤ (k : Int) := by omega
  have hi1 : (k : Int) < (l.length : Int) := by omega
  have hpl : (D.take k).length = k := by rw [List.length_take]; omega
  have hpre : ∀ j : Nat, j < k → atV (D.take k) j = atV D j := fun j hj => take_getD D k j _ hj
  generalize D.take k = pre at hpl hpre ⊢
  generalize l[k] = x at *
  obtain ⟨op, a, b, col, ⟨kk, n, s⟩⟩ := x
  simp only at c0 c1 c2 c3 c4 c5 c6 hA ho
  unfold maxLen at l2 lr2 ld2
  have HD := Lib.hid hd
  have HR := Lib.hid hr
  clear hl hr hd
  subst ho
  have ha : ari 2 = 0 := by decide
  have hll : lgl ⟨2, a, b, col, ⟨kk, n, s⟩⟩ k = true := lgl_none (show ari 2 < 1 by decide)
  rw [ha] at hA
  rw [hll] at hL
  have HA := Lib.hid hA
  have HL := Lib.hid hL
  clear hA hL
  by_cases hneg : col < 0
  · have hb : isIx col row.length = false := (isIx_no _ _).2 (.inl hneg)
    have H := Lib.hid (show evO ⟨2, a, b, col, ⟨kk, n, s⟩⟩ pre row = ⟨0, 0, []⟩ by unfold evO; rw [hpl, if_neg (by rw [hll]; decide), if_neg (show ¬ (2 : Int) = 1 by decide), if_pos rfl, if_neg (by rw [hb]; decide)]; rfl)
    clear hb hll hpre hpl
    go_enter Try.func26, Try.ntmps26
    go_wp2_with fail
    refine (HA.out _).mono ?_; rintro e w1 ⟨rfl, rfl⟩
    go_wp2_with fail
    refine (HL.out _ (((Ext.refl _).alloc _ _).alloc _ _)).mono ?_; rintro e w1 ⟨rfl, rfl⟩
    go_wp2_with fail
    try simp only [Exit.inBlock, Exit.then]
    exact bodyPost_ret (v := vv ⟨0, 0, []⟩) (by simp [results, Try.results26, go_sem]) rfl ⟨ret_vv H.out.symm, by repeat (first | exact Ext.refl _ | refine Ext.alloc ?_ _ _ | refine Ext.setNew ?_ _ _ (by simp; try omega) _)⟩
  by_cases hbig : (row.length : Int) ≤ col
  · have hb : isIx col row.length = false := (isIx_no _ _).2 (.inr hbig)
    have H := Lib.hid (show evO ⟨2, a, b, col, ⟨kk, n, s⟩⟩ pre row = ⟨0, 0, []⟩ by unfold evO; rw [hpl, if_neg (by rw [hll]; decide), if_neg (show ¬ (2 : Int) = 1 by decide), if_pos rfl, if_neg (by rw [hb]; decide)]; rfl)
    clear hb hll hpre hpl
    go_enter Try.func26, Try.ntmps26
    go_wp2_with fail
    refine (HA.out _).mono ?_; rintro e w1 ⟨rfl, rfl⟩
    go_wp2_with fail
    refine (HL.out _ (((Ext.refl _).alloc _ _).alloc _ _)).mono ?_; rintro e w1 ⟨rfl, rfl⟩
    go_wp2_with fail
    try simp only [Exit.inBlock, Exit.then]
    exact bodyPost_ret (v := vv ⟨0, 0, []⟩) (by simp [results, Try.results26, go_sem]) rfl ⟨ret_vv H.out.symm, by repeat (first | exact Ext.refl _ | refine Ext.alloc ?_ _ _ | refine Ext.setNew ?_ _ _ (by simp; try omega) _)⟩
  have hb : isIx col row.length = true := (isIx_iff _ _).2 ⟨by omega, by omega⟩
  obtain ⟨j, rfl⟩ := nat_of (show (0 : Int) ≤ col by omega)
  have hj : j < row.length := by omega
  have hjl : (j : Int) < (row.length : Int) := by omega
  have H := Lib.hid (show evO ⟨2, a, b, j, ⟨kk, n, s⟩⟩ pre row = row[j] by unfold evO; rw [hpl, if_neg (by rw [hll]; decide), if_neg (show ¬ (2 : Int) = 1 by decide), if_pos rfl, if_pos hb, atV_at _ _ hj])
  obtain ⟨g2, o2, rfl, d0, d1, d2⟩ := rd_V HR.out j hj
  have hg2 : g2 < w.heap.size := World.block_lt_of_cell? _ _ d0
  generalize row[j] = xv at *
  obtain ⟨p, q, t⟩ := xv
  simp only at d0 d1 d2
  have hE4 : Ext w ((((w.alloc (.cells #[.int .i64 0, .int .i64 0, .string ⟨#[]⟩] 34)).alloc (.cells #[.int .i64 2, .int .i64 a, .int .i64 b, .int .i64 j, .int .i64 kk, .int .i64 n, sv s] 44)).alloc (.cells #[.int .i64 0, .int .i64 0, .string ⟨#[]⟩] 34)).alloc (.cells #[.int .i64 0, .int .i64 0, .string ⟨#[]⟩] 34)) := ((((Ext.refl w).alloc _ _).alloc _ _).alloc _ _).alloc _ _
  have D0 := hE4.keeps d0
  have D1 := hE4.keeps d1
  have D2 := hE4.keeps d2
  have HE4 := Lib.hid hE4
  clear hb hll hpre hpl d0 d1 d2 hE4
  go_enter Try.func26, Try.ntmps26
  go_wp2_with fail
  refine (HA.out _).mono ?_; rintro e w1 ⟨rfl, rfl⟩
  go_wp2_with fail
  refine (HL.out _ (((Ext.refl _).alloc _ _).alloc _ _)).mono ?_; rintro e w1 ⟨rfl, rfl⟩
  go_wp2_with fail
  try simp only [Exit.inBlock, Exit.then]
  exact bodyPost_ret (v := vv ⟨p, q, t⟩) (by simp [results, Try.results26, go_sem]) rfl ⟨ret_vv H.out.symm, by repeat (first | exact Ext.refl _ | refine Ext.alloc ?_ _ _ | refine Ext.setNew ?_ _ _ (by simp; try omega) _)⟩
end Go.Proofs.Ytdamlnfjhpmpmaa
