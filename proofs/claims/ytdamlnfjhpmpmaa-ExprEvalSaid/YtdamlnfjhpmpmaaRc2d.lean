/- The reference's type of one expression: connectives. -/
import Derived.Test.YtdamlnfjhpmpmaaRc1
import Derived.Test.YtdamlnfjhpmpmaaEx2
namespace Go.Proofs.Ytdamlnfjhpmpmaa
open Go.ChangeShapes Go.WideShapes Go.ChangeAt Go.RowKit


set_option maxHeartbeats 4000000 in
set_option maxRecDepth 100000 in
theorem oneR_8 (l : List X) (k : Nat) (cols : List Int) (D : List (Int × Int)) (vl vc vd : Value) (w : World) (hl : RdG w vl l) (hc : RdG w vc cols) (hd : RdG w vd D) (hk : k < l.length) (hD : k ≤ D.length) (ho : l[k].op = 8) (hb : lgl l[k] k = true) (hq : (atK D l[k].a).2 = 0) (hq2 : (atK D l[k].b).2 = 0) :
    Calls Try.prog 23 #[vl, .int .i64 k, vc, vd] w fun e w' => e = .returned (kv (chO l[k] (D.take k) cols)) ∧ Ext w w' := by
  obtain ⟨al, cl, rfl, l1, l2⟩ := hl.shape
  obtain ⟨ac, cc, rfl, lc1, lc2⟩ := hc.shape
  obtain ⟨ad, cd, rfl, ld1, ld2⟩ := hd.shape
  obtain ⟨g, o, rfl, c0, c1, c2, c3, c4, c5, c6⟩ := rd_X hl k hk
  have hgl : g < w.heap.size := World.block_lt_of_cell? _ _ c0
  have hA := ari_ref l[k].op
  have hL := fun w' (e : Ext w w') => lgl_ref l k _ w' (hl.ext e) hk
  have hV := vld_ref l[k].c
  have hi0 : (0 : Int) ≤ (k : Int) := by omega
  have hi1 : (k : Int) < (l.length : Int) := by omega
  have hpl : (D.take k).length = k := by rw [List.length_take]; omega
  have hpre : ∀ j : Nat, j < k → atK (D.take k) j = atK D j := fun j hj => take_getD D k j _ hj
  generalize D.take k = pre at hpl hpre ⊢
  generalize l[k] = x at *
  obtain ⟨op, a, b, col, ⟨kk, n, s⟩⟩ := x
  simp only at c0 c1 c2 c3 c4 c5 c6 hA hV ho
  unfold maxLen at l2 lc2 ld2
  have HD := Lib.hid hd
  have HC := Lib.hid hc
  clear hl hc hd
  subst ho
  have ho2 : ari 8 = 2 := by decide
  rw [ho2] at hA
  simp only at hq hq2
  have hx := lgA_lt (lgA_of hb (show 1 ≤ ari 8 by rw [ho2]; decide))
  have hy := lgB_lt (lgB_of hb ho2)
  simp only at hx hy
  obtain ⟨j, rfl⟩ := nat_of hx.1
  obtain ⟨i, rfl⟩ := nat_of hy.1
  have hj : j < D.length := by omega
  have hi : i < D.length := by omega
  have hjl : (j : Int) < (D.length : Int) := by omega
  have hil : (i : Int) < (D.length : Int) := by omega
  have hja : atK pre j = D[j] := by rw [hpre j (by omega), atK_at _ _ hj]
  have hia : atK pre i = D[i] := by rw [hpre i (by omega), atK_at _ _ hi]
  obtain ⟨g2, o2, rfl, d0, d1⟩ := rd_K HD.out j hj
  obtain ⟨g3, o3, e3, d2, d3⟩ := rd_K HD.out i hi
  simp only [Option.some.injEq, Addr.mk.injEq, and_true] at e3
  obtain ⟨rfl, rfl⟩ := e3
  have hg2 : g2 < w.heap.size := World.block_lt_of_cell? _ _ d0
  rw [atK_at _ _ hj] at hq
  rw [atK_at _ _ hi] at hq2
  generalize D[j] = pq at *
  generalize D[i] = rs at *
  obtain ⟨p, q⟩ := pq
  obtain ⟨p2, q2⟩ := rs
  simp only at d0 d1 d2 d3 hq hq2
  subst hq
  subst hq2
  rw [hb] at hL
  have hH : chO ⟨8, j, i, col, ⟨kk, n, s⟩⟩ pre cols = biO 8 (p, 0) (p2, 0) := by
    unfold chO; rw [hpl, if_neg (by simp [ari]), if_neg (by simp [hb]), if_neg (by simp only; omega), if_pos ho2]; simp only; rw [hja, hia]
  have HL := Lib.hid hL
  have HA := Lib.hid hA
  clear hA hL hV hb hpre hpl hja hia hx hy ho2
  have hF := fits_ref p 3
  have hG := fits_ref p2 3
  cases hf : accB 3 p with
  | false =>
    have H := Lib.hid (hH.trans (show biO 8 (p, 0) (p2, 0) = (0, 7) by simp [biO, hf]))
    rw [hf] at hF
    have HF := Lib.hid hF
    clear hF hG hH hf
    go_enter Try.func23, Try.ntmps23
    go_wp2_with fail
    refine (HA.out _).mono ?_; rintro e w1 ⟨rfl, rfl⟩
    go_wp2_with fail
    refine (HL.out _ (((Ext.refl _).alloc _ _).alloc _ _)).mono ?_; rintro e w1 ⟨rfl, rfl⟩
    go_wp2_with fail
    refine (HF.out _).mono ?_; rintro e w1 ⟨rfl, rfl⟩
    go_wp2_with fail
    try simp only [Exit.inBlock, Exit.then]
    exact bodyPost_ret (v := kv (0, 7)) (by simp [results, Try.results23, go_sem]) rfl ⟨ret_kv H.out.symm, by repeat (first | exact hE | exact Ext.refl _ | refine Ext.alloc ?_ _ _ | refine Ext.setNew ?_ _ _ (by simp; try omega) _)⟩
  | true =>
    cases hg : accB 3 p2 with
    | false =>
      have H := Lib.hid (hH.trans (show biO 8 (p, 0) (p2, 0) = (0, 7) by simp [biO, hf, hg]))
      rw [hf] at hF
      rw [hg] at hG
      have HF := Lib.hid hF
      have HG := Lib.hid hG
      clear hF hG hH hf hg
      go_enter Try.func23, Try.ntmps23
      go_wp2_with fail
      refine (HA.out _).mono ?_; rintro e w1 ⟨rfl, rfl⟩
      go_wp2_with fail
      refine (HL.out _ (((Ext.refl _).alloc _ _).alloc _ _)).mono ?_; rintro e w1 ⟨rfl, rfl⟩
      go_wp2_with fail
      refine (HF.out _).mono ?_; rintro e w1 ⟨rfl, rfl⟩
      go_wp2_with fail
      refine (HG.out _).mono ?_; rintro e w1 ⟨rfl, rfl⟩
      go_wp2_with fail
      try simp only [Exit.inBlock, Exit.then]
      exact bodyPost_ret (v := kv (0, 7)) (by simp [results, Try.results23, go_sem]) rfl ⟨ret_kv H.out.symm, by repeat (first | exact hE | exact Ext.refl _ | refine Ext.alloc ?_ _ _ | refine Ext.setNew ?_ _ _ (by simp; try omega) _)⟩
    | true =>
      have H := Lib.hid (hH.trans (show biO 8 (p, 0) (p2, 0) = (3, 0) by simp [biO, hf, hg]))
      rw [hf] at hF
      rw [hg] at hG
      have HF := Lib.hid hF
      have HG := Lib.hid hG
      clear hF hG hH hf hg
      go_enter Try.func23, Try.ntmps23
      go_wp2_with fail
      refine (HA.out _).mono ?_; rintro e w1 ⟨rfl, rfl⟩
      go_wp2_with fail
      refine (HL.out _ (((Ext.refl _).alloc _ _).alloc _ _)).mono ?_; rintro e w1 ⟨rfl, rfl⟩
      go_wp2_with fail
      refine (HF.out _).mono ?_; rintro e w1 ⟨rfl, rfl⟩
      go_wp2_with fail
      refine (HG.out _).mono ?_; rintro e w1 ⟨rfl, rfl⟩
      go_wp2_with fail
      try simp only [Exit.inBlock, Exit.then]
      exact bodyPost_ret (v := kv (3, 0)) (by simp [results, Try.results23, go_sem]) rfl ⟨ret_kv H.out.symm, by repeat (first | exact hE | exact Ext.refl _ | refine Ext.alloc ?_ _ _ | refine Ext.setNew ?_ _ _ (by simp; try omega) _)⟩
set_option maxHeartbeats 4000000 in
set_option maxRecDepth 100000 in
theorem oneR_9 (l : List X) (k : Nat) (cols : List Int) (D : List (Int × Int)) (vl vc vd : Value) (w : World) (hl : RdG w vl l) (hc : RdG w vc cols) (hd : RdG w vd D) (hk : k < l.length) (hD : k ≤ D.length) (ho : l[k].op = 9) (hb : lgl l[k] k = true) (hq : (atK D l[k].a).2 = 0) (hq2 : (atK D l[k].b).2 = 0) :
    Calls Try.prog 23 #[vl, .int .i64 k, vc, vd] w fun e w' => e = .returned (kv (chO l[k] (D.take k) cols)) ∧ Ext w w' := by
  obtain ⟨al, cl, rfl, l1, l2⟩ := hl.shape
  obtain ⟨ac, cc, rfl, lc1, lc2⟩ := hc.shape
  obtain ⟨ad, cd, rfl, ld1, ld2⟩ := hd.shape
  obtain ⟨g, o, rfl, c0, c1, c2, c3, c4, c5, c6⟩ := rd_X hl k hk
  have hgl : g < w.heap.size := World.block_lt_of_cell? _ _ c0
  have hA := ari_ref l[k].op
  have hL := fun w' (e : Ext w w') => lgl_ref l k _ w' (hl.ext e) hk
  have hV := vld_ref l[k].c
  have hi0 : (0 : Int) ≤ (k : Int) := by omega
  have hi1 : (k : Int) < (l.length : Int) := by omega
  have hpl : (D.take k).length = k := by rw [List.length_take]; omega
  have hpre : ∀ j : Nat, j < k → atK (D.take k) j = atK D j := fun j hj => take_getD D k j _ hj
  generalize D.take k = pre at hpl hpre ⊢
  generalize l[k] = x at *
  obtain ⟨op, a, b, col, ⟨kk, n, s⟩⟩ := x
  simp only at c0 c1 c2 c3 c4 c5 c6 hA hV ho
  unfold maxLen at l2 lc2 ld2
  have HD := Lib.hid hd
  have HC := Lib.hid hc
  clear hl hc hd
  subst ho
  have ho2 : ari 9 = 2 := by decide
  rw [ho2] at hA
  simp only at hq hq2
  have hx := lgA_lt (lgA_of hb (show 1 ≤ ari 9 by rw [ho2]; decide))
  have hy := lgB_lt (lgB_of hb ho2)
  simp only at hx hy
  obtain ⟨j, rfl⟩ := nat_of hx.1
  obtain ⟨i, rfl⟩ := nat_of hy.1
  have hj : j < D.length := by omega
  have hi : i < D.length := by omega
  have hjl : (j : Int) < (D.length : Int) := by omega
  have hil : (i : Int) < (D.length : Int) := by omega
  have hja : atK pre j = D[j] := by rw [hpre j (by omega), atK_at _ _ hj]
  have hia : atK pre i = D[i] := by rw [hpre i (by omega), atK_at _ _ hi]
  obtain ⟨g2, o2, rfl, d0, d1⟩ := rd_K HD.out j hj
  obtain ⟨g3, o3, e3, d2, d3⟩ := rd_K HD.out i hi
  simp only [Option.some.injEq, Addr.mk.injEq, and_true] at e3
  obtain ⟨rfl, rfl⟩ := e3
  have hg2 : g2 < w.heap.size := World.block_lt_of_cell? _ _ d0
  rw [atK_at _ _ hj] at hq
  rw [atK_at _ _ hi] at hq2
  generalize D[j] = pq at *
  generalize D[i] = rs at *
  obtain ⟨p, q⟩ := pq
  obtain ⟨p2, q2⟩ := rs
  simp only at d0 d1 d2 d3 hq hq2
  subst hq
  subst hq2
  rw [hb] at hL
  have hH : chO ⟨9, j, i, col, ⟨kk, n, s⟩⟩ pre cols = biO 9 (p, 0) (p2, 0) := by
    unfold chO; rw [hpl, if_neg (by simp [ari]), if_neg (by simp [hb]), if_neg (by simp only; omega), if_pos ho2]; simp only; rw [hja, hia]
  have HL := Lib.hid hL
  have HA := Lib.hid hA
  clear hA hL hV hb hpre hpl hja hia hx hy ho2
  have hF := fits_ref p 3
  have hG := fits_ref p2 3
  cases hf : accB 3 p with
  | false =>
    have H := Lib.hid (hH.trans (show biO 9 (p, 0) (p2, 0) = (0, 7) by simp [biO, hf]))
    rw [hf] at hF
    have HF := Lib.hid hF
    clear hF hG hH hf
    go_enter Try.func23, Try.ntmps23
    go_wp2_with fail
    refine (HA.out _).mono ?_; rintro e w1 ⟨rfl, rfl⟩
    go_wp2_with fail
    refine (HL.out _ (((Ext.refl _).alloc _ _).alloc _ _)).mono ?_; rintro e w1 ⟨rfl, rfl⟩
    go_wp2_with fail
    refine (HF.out _).mono ?_; rintro e w1 ⟨rfl, rfl⟩
    go_wp2_with fail
    try simp only [Exit.inBlock, Exit.then]
    exact bodyPost_ret (v := kv (0, 7)) (by simp [results, Try.results23, go_sem]) rfl ⟨ret_kv H.out.symm, by repeat (first | exact hE | exact Ext.refl _ | refine Ext.alloc ?_ _ _ | refine Ext.setNew ?_ _ _ (by simp; try omega) _)⟩
  | true =>
    cases hg : accB 3 p2 with
    | false =>
      have H := Lib.hid (hH.trans (show biO 9 (p, 0) (p2, 0) = (0, 7) by simp [biO, hf, hg]))
      rw [hf] at hF
      rw [hg] at hG
      have HF := Lib.hid hF
      have HG := Lib.hid hG
      clear hF hG hH hf hg
      go_enter Try.func23, Try.ntmps23
      go_wp2_with fail
      refine (HA.out _).mono ?_; rintro e w1 ⟨rfl, rfl⟩
      go_wp2_with fail
      refine (HL.out _ (((Ext.refl _).alloc _ _).alloc _ _)).mono ?_; rintro e w1 ⟨rfl, rfl⟩
      go_wp2_with fail
      refine (HF.out _).mono ?_; rintro e w1 ⟨rfl, rfl⟩
      go_wp2_with fail
      refine (HG.out _).mono ?_; rintro e w1 ⟨rfl, rfl⟩
      go_wp2_with fail
      try simp only [Exit.inBlock, Exit.then]
      exact bodyPost_ret (v := kv (0, 7)) (by simp [results, Try.results23, go_sem]) rfl ⟨ret_kv H.out.symm, by repeat (first | exact hE | exact Ext.refl _ | refine Ext.alloc ?_ _ _ | refine Ext.setNew ?_ _ _ (by simp; try omega) _)⟩
    | true =>
      have H := Lib.hid (hH.trans (show biO 9 (p, 0) (p2, 0) = (3, 0) by simp [biO, hf, hg]))
      rw [hf] at hF
      rw [hg] at hG
      have HF := Lib.hid hF
      have HG := Lib.hid hG
      clear hF hG hH hf hg
      go_enter Try.func23, Try.ntmps23
      go_wp2_with fail
      refine (HA.out _).mono ?_; rintro e w1 ⟨rfl, rfl⟩
      go_wp2_with fail
      refine (HL.out _ (((Ext.refl _).alloc _ _).alloc _ _)).mono ?_; rintro e w1 ⟨rfl, rfl⟩
      go_wp2_with fail
      refine (HF.out _).mono ?_; rintro e w1 ⟨rfl, rfl⟩
      go_wp2_with fail
      refine (HG.out _).mono ?_; rintro e w1 ⟨rfl, rfl⟩
      go_wp2_with fail
      try simp only [Exit.inBlock, Exit.then]
      exact bodyPost_ret (v := kv (3, 0)) (by simp [results, Try.results23, go_sem]) rfl ⟨ret_kv H.out.symm, by repeat (first | exact hE | exact Ext.refl _ | refine Ext.alloc ?_ _ _ | refine Ext.setNew ?_ _ _ (by simp; try omega) _)⟩
end Go.Proofs.Ytdamlnfjhpmpmaa
