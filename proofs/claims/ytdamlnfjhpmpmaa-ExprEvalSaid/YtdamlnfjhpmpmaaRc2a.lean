/- The reference's type of one expression: one operand. -/
import Derived.Test.YtdamlnfjhpmpmaaRc1
import Derived.Test.YtdamlnfjhpmpmaaEx2
namespace Go.Proofs.Ytdamlnfjhpmpmaa
open Go.ChangeShapes Go.WideShapes Go.ChangeAt Go.RowKit


set_option maxHeartbeats 4000000 in
set_option maxRecDepth 100000 in
theorem oneR_10 (l : List X) (k : Nat) (cols : List Int) (D : List (Int × Int)) (vl vc vd : Value) (w : World) (hl : RdG w vl l) (hc : RdG w vc cols) (hd : RdG w vd D) (hk : k < l.length) (hD : k ≤ D.length) (ho : l[k].op = 10) (hb : lgl l[k] k = true) (hq : (atK D l[k].a).2 = 0) :
    Calls Try.prog 23 #[vl, .int .i64 k, vc, vd] w fun e w' => e = .returned (kv (chO l[k] (D.take k) cols)) ∧ Ext w w' := by
  obtain ⟨al, cl, rfl, l1, l2⟩ := hl.shape
  obtain ⟨ac, cc, rfl, lc1, lc2⟩ := hc.shape
  obtain ⟨ad, cd, rfl, ld1, ld2⟩ := hd.shape
  obtain ⟨g, o, rfl, c0, c1, c2, c3, c4, c5, c6⟩ := rd_X hl k hk
  have hgl : g < w.heap.size := World.block_lt_of_cell? _ _ c0
  have hA := ari_ref l[k].op
  have hL := fun w' (e : Ext w w') => lgl_ref l k _ w' (hl.ext e) hk
  have hV := vld_ref l[k].c
  have hi0 : (0 : Int) ≤ (k : Int) := by omega
  have hi1 : (k : Int) < (l.length : Int) := by omega
  have hpl : (D.take k).length = k := by rw [List.length_take]; omega
  have hpre : ∀ j : Nat, j < k → atK (D.take k) j = atK D j := fun j hj => take_getD D k j _ hj
  generalize D.take k = pre at hpl hpre ⊢
  generalize l[k] = x at *
  obtain ⟨op, a, b, col, ⟨kk, n, s⟩⟩ := x
  simp only at c0 c1 c2 c3 c4 c5 c6 hA hV ho
  unfold maxLen at l2 lc2 ld2
  have HD := Lib.hid hd
  have HC := Lib.hid hc
  clear hl hc hd
  subst ho
  have ha : ari 10 = 1 := by decide
  rw [ha] at hA
  simp only at hq
  have hx := lgA_lt (lgA_of hb (show 1 ≤ ari 10 by decide))
  simp only at hx
  obtain ⟨j, rfl⟩ := nat_of hx.1
  have hj : j < D.length := by omega
  have hjl : (j : Int) < (D.length : Int) := by omega
  have hja : atK pre j = D[j] := by rw [hpre j (by omega), atK_at _ _ hj]
  obtain ⟨g2, o2, rfl, d0, d1⟩ := rd_K HD.out j hj
  have hg2 : g2 < w.heap.size := World.block_lt_of_cell? _ _ d0
  rw [atK_at _ _ hj] at hq
  generalize D[j] = pq at *
  obtain ⟨p, q⟩ := pq
  simp only at d0 d1 hq
  subst hq
  rw [hb] at hL
  have hH : chO ⟨10, j, b, col, ⟨kk, n, s⟩⟩ pre cols = unO 10 (p, 0) := by
    unfold chO; rw [hpl, if_neg (by simp [ari]), if_neg (by simp [hb]), if_pos ha]; simp only; rw [hja]
  have HL := Lib.hid hL
  have HA := Lib.hid hA
  clear hA hL hV hb hpre hpl hja hx ha
  have hF := fits_ref p 3
  cases hf : accB 3 p with
  | false =>
    have H := Lib.hid (hH.trans (show unO 10 (p, 0) = (0, 7) by simp [unO, hf]))
    rw [hf] at hF
    have HF := Lib.hid hF
    clear hF hH hf
    go_enter Try.func23, Try.ntmps23
    go_wp2_with fail
    refine (HA.out _).mono ?_; rintro e w1 ⟨rfl, rfl⟩
    go_wp2_with fail
    refine (HL.out _ (((Ext.refl _).alloc _ _).alloc _ _)).mono ?_; rintro e w1 ⟨rfl, rfl⟩
    go_wp2_with fail
    refine (HF.out _).mono ?_; rintro e w1 ⟨rfl, rfl⟩
    go_wp2_with fail
    try simp only [Exit.inBlock, Exit.then]
    exact bodyPost_ret (v := kv (0, 7)) (by simp [results, Try.results23, go_sem]) rfl ⟨ret_kv H.out.symm, by repeat (first | exact hE | exact Ext.refl _ | refine Ext.alloc ?_ _ _ | refine Ext.setNew ?_ _ _ (by simp; try omega) _)⟩
  | true =>
    have H := Lib.hid (hH.trans (show unO 10 (p, 0) = (3, 0) by simp [unO, hf]))
    rw [hf] at hF
    have HF := Lib.hid hF
    clear hF hH hf
    go_enter Try.func23, Try.ntmps23
    go_wp2_with fail
    refine (HA.out _).mono ?_; rintro e w1 ⟨rfl, rfl⟩
    go_wp2_with fail
    refine (HL.out _ (((Ext.refl _).alloc _ _).alloc _ _)).mono ?_; rintro e w1 ⟨rfl, rfl⟩
    go_wp2_with fail
    refine (HF.out _).mono ?_; rintro e w1 ⟨rfl, rfl⟩
    go_wp2_with fail
    try simp only [Exit.inBlock, Exit.then]
    exact bodyPost_ret (v := kv (3, 0)) (by simp [results, Try.results23, go_sem]) rfl ⟨ret_kv H.out.symm, by repeat (first | exact hE | exact Ext.refl _ | refine Ext.alloc ?_ _ _ | refine Ext.setNew ?_ _ _ (by simp; try omega) _)⟩
set_option maxHeartbeats 4000000 in
set_option maxRecDepth 100000 in
theorem oneR_11 (l : List X) (k : Nat) (cols : List Int) (D : List (Int × Int)) (vl vc vd : Value) (w : World) (hl : RdG w vl l) (hc : RdG w vc cols) (hd : RdG w vd D) (hk : k < l.length) (hD : k ≤ D.length) (ho : l[k].op = 11) (hb : lgl l[k] k = true) (hq : (atK D l[k].a).2 = 0) :
    Calls Try.prog 23 #[vl, .int .i64 k, vc, vd] w fun e w' => e = .returned (kv (chO l[k] (D.take k) cols)) ∧ Ext w w' := by
  obtain ⟨al, cl, rfl, l1, l2⟩ := hl.shape
  obtain ⟨ac, cc, rfl, lc1, lc2⟩ := hc.shape
  obtain ⟨ad, cd, rfl, ld1, ld2⟩ := hd.shape
  obtain ⟨g, o, rfl, c0, c1, c2, c3, c4, c5, c6⟩ := rd_X hl k hk
  have hgl : g < w.heap.size := World.block_lt_of_cell? _ _ c0
  have hA := ari_ref l[k].op
  have hL := fun w' (e : Ext w w') => lgl_ref l k _ w' (hl.ext e) hk
  have hV := vld_ref l[k].c
  have hi0 : (0 : Int) ≤ (k : Int) := by omega
  have hi1 : (k : Int) < (l.length : Int) := by omega
  have hpl : (D.take k).length = k := by rw [List.length_take]; omega
  have hpre : ∀ j : Nat, j < k → atK (D.take k) j = atK D j := fun j hj => take_getD D k j _ hj
  generalize D.take k = pre at hpl hpre ⊢
  generalize l[k] = x at *
  obtain ⟨op, a, b, col, ⟨kk, n, s⟩⟩ := x
  simp only at c0 c1 c2 c3 c4 c5 c6 hA hV ho
  unfold maxLen at l2 lc2 ld2
  have HD := Lib.hid hd
  have HC := Lib.hid hc
  clear hl hc hd
  subst ho
  have ha : ari 11 = 1 := by decide
  rw [ha] at hA
  simp only at hq
  have hx := lgA_lt (lgA_of hb (show 1 ≤ ari 11 by decide))
  simp only at hx
  obtain ⟨j, rfl⟩ := nat_of hx.1
  have hj : j < D.length := by omega
  have hjl : (j : Int) < (D.length : Int) := by omega
  have hja : atK pre j = D[j] := by rw [hpre j (by omega), atK_at _ _ hj]
  obtain ⟨g2, o2, rfl, d0, d1⟩ := rd_K HD.out j hj
  have hg2 : g2 < w.heap.size := World.block_lt_of_cell? _ _ d0
  rw [atK_at _ _ hj] at hq
  generalize D[j] = pq at *
  obtain ⟨p, q⟩ := pq
  simp only at d0 d1 hq
  subst hq
  rw [hb] at hL
  have hH : chO ⟨11, j, b, col, ⟨kk, n, s⟩⟩ pre cols = unO 11 (p, 0) := by
    unfold chO; rw [hpl, if_neg (by simp [ari]), if_neg (by simp [hb]), if_pos ha]; simp only; rw [hja]
  have HL := Lib.hid hL
  have HA := Lib.hid hA
  clear hA hL hV hb hpre hpl hja hx ha
  have H := Lib.hid (hH.trans (show unO 11 (p, 0) = (3, 0) by simp [unO]))
  clear hH
  go_enter Try.func23, Try.ntmps23
  go_wp2_with fail
  refine (HA.out _).mono ?_; rintro e w1 ⟨rfl, rfl⟩
  go_wp2_with fail
  refine (HL.out _ (((Ext.refl _).alloc _ _).alloc _ _)).mono ?_; rintro e w1 ⟨rfl, rfl⟩
  go_wp2_with fail
  try simp only [Exit.inBlock, Exit.then]
  exact bodyPost_ret (v := kv (3, 0)) (by simp [results, Try.results23, go_sem]) rfl ⟨ret_kv H.out.symm, by repeat (first | exact hE | exact Ext.refl _ | refine Ext.alloc ?_ _ _ | refine Ext.setNew ?_ _ _ (by simp; try omega) _)⟩
end Go.Proofs.Ytdamlnfjhpmpmaa
