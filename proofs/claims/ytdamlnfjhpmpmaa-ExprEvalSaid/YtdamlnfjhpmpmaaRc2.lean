/- The reference's type of one expression: constants, columns, errors. -/
import Derived.Test.YtdamlnfjhpmpmaaRc1
import Derived.Test.YtdamlnfjhpmpmaaEx2
namespace Go.Proofs.Ytdamlnfjhpmpmaa
open Go.ChangeShapes Go.WideShapes Go.ChangeAt Go.RowKit


set_option maxHeartbeats 4000000 in
set_option maxRecDepth 100000 in
theorem oneR_none (l : List X) (k : Nat) (cols : List Int) (D : List (Int × Int)) (vl vc vd : Value) (w : World) (hl : RdG w vl l) (hc : RdG w vc cols) (hd : RdG w vd D) (hk : k < l.length) (hD : k ≤ D.length) (ho : ari l[k].op = -1) :
    Calls Try.prog 23 #[vl, .int .i64 k, vc, vd] w fun e w' => e = .returned (kv (chO l[k] (D.take k) cols)) ∧ Ext w w' := by
  obtain ⟨al, cl, rfl, l1, l2⟩ := hl.shape
  obtain ⟨ac, cc, rfl, lc1, lc2⟩ := hc.shape
  obtain ⟨ad, cd, rfl, ld1, ld2⟩ := hd.shape
  obtain ⟨g, o, rfl, c0, c1, c2, c3, c4, c5, c6⟩ := rd_X hl k hk
  have hgl : g < w.heap.size := World.block_lt_of_cell? _ _ c0
  have hA := ari_ref l[k].op
  have hL := fun w' (e : Ext w w') => lgl_ref l k _ w' (hl.ext e) hk
  have hV := vld_ref l[k].c
  have hi0 : (0 : Int) ≤ (k : Int) := by omega
  have hi1 : (k : Int) < (l.length : Int) := by omega
  have hpl : (D.take k).length = k := by rw [List.length_take]; omega
  have hpre : ∀ j : Nat, j < k → atK (D.take k) j = atK D j := fun j hj => take_getD D k j _ hj
  generalize D.take k = pre at hpl hpre ⊢
  generalize l[k] = x at *
  obtain ⟨op, a, b, col, ⟨kk, n, s⟩⟩ := x
  simp only at c0 c1 c2 c3 c4 c5 c6 hA hV ho
  unfold maxLen at l2 lc2 ld2
  have HD := Lib.hid hd
  have HC := Lib.hid hc
  clear hl hc hd
  have H := Lib.hid (show chO ⟨op, a, b, col, ⟨kk, n, s⟩⟩ pre cols = (0, 5) by unfold chO; rw [if_pos (Or.inl ho)])
  rw [ho] at hA
  have HA := Lib.hid hA
  clear hA hL hV ho hpre hpl
  go_enter Try.func23, Try.ntmps23
  go_wp2_with fail
  refine (HA.out _).mono ?_; rintro e w1 ⟨rfl, rfl⟩
  go_wp2_with fail
  try simp only [Exit.inBlock, Exit.then]
  exact bodyPost_ret (v := kv (0, 5)) (by simp [results, Try.results23, go_sem]) rfl ⟨ret_kv H.out.symm, by repeat (first | exact hE | exact Ext.refl _ | refine Ext.alloc ?_ _ _ | refine Ext.setNew ?_ _ _ (by simp; try omega) _)⟩
set_option maxHeartbeats 4000000 in
set_option maxRecDepth 100000 in
theorem oneR_1 (l : List X) (k : Nat) (cols : List Int) (D : List (Int × Int)) (vl vc vd : Value) (w : World) (hl : RdG w vl l) (hc : RdG w vc cols) (hd : RdG w vd D) (hk : k < l.length) (hD : k ≤ D.length) (ho : l[k].op = 1) :
    Calls Try.prog 23 #[vl, .int .i64 k, vc, vd] w fun e w' => e = .returned (kv (chO l[k] (D.take k) cols)) ∧ Ext w w' := by
  obtain ⟨al, cl, rfl, l1, l2⟩ := hl.shape
  obtain ⟨ac, cc, rfl, lc1, lc2⟩ := hc.shape
  obtain ⟨ad, cd, rfl, ld1, ld2⟩ := hd.shape
  obtain ⟨g, o, rfl, c0, c1, c2, c3, c4, c5, c6⟩ := rd_X hl k hk
  have hgl : g < w.heap.size := World.block_lt_of_cell? _ _ c0
  have hA := ari_ref l[k].op
  have hL := fun w' (e : Ext w w') => lgl_ref l k _ w' (hl.ext e) hk
  have hV := vld_ref l[k].c
  have hi0 : (0 : Int) ≤ (k : Int) := by omega
  have hi1 : (k : Int) < (l.length : Int) := by omega
  have hpl : (D.take k).length = k := by rw [List.length_take]; omega
  have hpre : ∀ j : Nat, j < k → atK (D.take k) j = atK D j := fun j hj => take_getD D k j _ hj
  generalize D.take k = pre at hpl hpre ⊢
  generalize l[k] = x at *
  obtain ⟨op, a, b, col, ⟨kk, n, s⟩⟩ := x
  simp only at c0 c1 c2 c3 c4 c5 c6 hA hV ho
  unfold maxLen at l2 lc2 ld2
  have HD := Lib.hid hd
  have HC := Lib.hid hc
  clear hl hc hd
  subst ho
  have ha : ari 1 = 0 := by decide
  rw [ha] at hA
  have HA := Lib.hid hA
  clear hA
  cases hb : vldB ⟨kk, n, s⟩ with
  | false =>
    have H := Lib.hid (show chO ⟨1, a, b, col, ⟨kk, n, s⟩⟩ pre cols = (0, 5) by unfold chO; rw [if_pos (Or.inr ⟨rfl, hb⟩)])
    rw [hb] at hV
    have HV := Lib.hid hV
    clear hV hb hL hpre hpl
    go_enter Try.func23, Try.ntmps23
    go_wp2_with fail
    refine (HA.out _).mono ?_; rintro e w1 ⟨rfl, rfl⟩
    go_wp2_with fail
    refine (HV.out _).mono ?_; rintro e w1 ⟨rfl, hg⟩
    have k0 := box2 _ _ _ _ hg 0 (.int .i64 0) rfl
    have k1 := box2 _ _ _ _ hg 1 (.int .i64 0) rfl
    have j0 := box2r _ _ _ _ hg 0 (.int .i64 1) rfl
    have j4 := box2r _ _ _ _ hg 4 (.int .i64 kk) rfl
    obtain ⟨gc, gf⟩ := gcell hg
    have hsz : w.heap.size + 1 < w1.heap.size := by have := hg.2.2; rw [alsz, alsz] at this; omega
    have hE : Ext w w1 := (((Ext.refl _).alloc _ _).alloc _ _).trans (ext_of_grown hg)
    go_wp2_with fail
    try simp only [Exit.inBlock, Exit.then]
    exact bodyPost_ret (v := kv (0, 5)) (by simp [results, Try.results23, go_sem, k0, k1]) rfl ⟨ret_kv H.out.symm, by repeat (first | exact hE | exact Ext.refl _ | refine Ext.alloc ?_ _ _ | refine Ext.setNew ?_ _ _ (by simp; try omega) _)⟩
  | true =>
    have hll : lgl ⟨1, a, b, col, ⟨kk, n, s⟩⟩ k = true := lgl_none (show ari 1 < 1 by decide)
    have H := Lib.hid (show chO ⟨1, a, b, col, ⟨kk, n, s⟩⟩ pre cols = (kk, 0) by unfold chO; rw [hpl, if_neg (by simp [hb, ari]), if_neg (by simp [hll]), if_neg (by simp [ari]), if_neg (by simp [ari]), if_neg (by simp)])
    rw [hb] at hV
    rw [hll] at hL
    have HV := Lib.hid hV
    have HL := Lib.hid hL
    clear hV hb hL hll hpre hpl
    go_enter Try.func23, Try.ntmps23
    go_wp2_with fail
    refine (HA.out _).mono ?_; rintro e w1 ⟨rfl, rfl⟩
    go_wp2_with fail
    refine (HV.out _).mono ?_; rintro e w1 ⟨rfl, hg⟩
    have k0 := box2 _ _ _ _ hg 0 (.int .i64 0) rfl
    have k1 := box2 _ _ _ _ hg 1 (.int .i64 0) rfl
    have j0 := box2r _ _ _ _ hg 0 (.int .i64 1) rfl
    have j4 := box2r _ _ _ _ hg 4 (.int .i64 kk) rfl
    obtain ⟨gc, gf⟩ := gcell hg
    have hsz : w.heap.size + 1 < w1.heap.size := by have := hg.2.2; rw [alsz, alsz] at this; omega
    have hE : Ext w w1 := (((Ext.refl _).alloc _ _).alloc _ _).trans (ext_of_grown hg)
    go_wp2_with fail
    refine (HL.out _ hE).mono ?_; rintro e w2 ⟨rfl, rfl⟩
    go_wp2_with fail
    try simp only [Exit.inBlock, Exit.then]
    exact bodyPost_ret (v := kv (kk, 0)) (by simp [results, Try.results23, go_sem, k0, k1]) rfl ⟨ret_kv H.out.symm, by repeat (first | exact hE | exact Ext.refl _ | refine Ext.alloc ?_ _ _ | refine Ext.setNew ?_ _ _ (by simp; try omega) _)⟩
set_option maxHeartbeats 4000000 in
set_option maxRecDepth 100000 in
theorem oneR_2 (l : List X) (k : Nat) (cols : List Int) (D : List (Int × Int)) (vl vc vd : Value) (w : World) (hl : RdG w vl l) (hc : RdG w vc cols) (hd : RdG w vd D) (hk : k < l.length) (hD : k ≤ D.length) (ho : l[k].op = 2) :
    Calls Try.prog 23 #[vl, .int .i64 k, vc, vd] w fun e w' => e = .returned (kv (chO l[k] (D.take k) cols)) ∧ Ext w w' := by
  obtain ⟨al, cl, rfl, l1, l2⟩ := hl.shape
  obtain ⟨ac, cc, rfl, lc1, lc2⟩ := hc.shape
  obtain ⟨ad, cd, rfl, ld1, ld2⟩ := hd.shape
  obtain ⟨g, o, rfl, c0, c1, c2, c3, c4, c5, c6⟩ := rd_X hl k hk
  have hgl : g < w.heap.size := World.block_lt_of_cell? _ _ c0
  have hA := ari_ref l[k].op
  have hL := fun w' (e : Ext w w') => lgl_ref l k _ w' (hl.ext e) hk
  have hV := vld_ref l[k].c
  have hi0 : (0 : Int) ≤ (k : Int) := by omega
  have hi1 : (k : Int) < (l.length : Int) := by omega
  have hpl : (D.take k).length = k := by rw [List.length_take]; omega
  have hpre : ∀ j : Nat, j < k → atK (D.take k) j = atK D j := fun j hj => take_getD D k j _ hj
  generalize D.take k = pre at hpl hpre ⊢
  generalize l[k] = x at *
  obtain ⟨op, a, b, col, ⟨kk, n, s⟩⟩ := x
  simp only at c0 c1 c2 c3 c4 c5 c6 hA hV ho
  unfold maxLen at l2 lc2 ld2
  have HD := Lib.hid hd
  have HC := Lib.hid hc
  clear hl hc hd
  subst ho
  have ha : ari 2 = 0 := by decide
  have hll : lgl ⟨2, a, b, col, ⟨kk, n, s⟩⟩ k = true := lgl_none (show ari 2 < 1 by decide)
  rw [ha] at hA
  rw [hll] at hL
  have HA := Lib.hid hA
  have HL := Lib.hid hL
  clear hA hL hV
  by_cases hneg : col < 0
  · have hb : isIx col cols.length = false := (isIx_no _ _).2 (.inl hneg)
    have H := Lib.hid (show chO ⟨2, a, b, col, ⟨kk, n, s⟩⟩ pre cols = (0, 10) by unfold chO; rw [if_neg (by simp [ari]), if_pos (Or.inr ⟨rfl, hb⟩)])
    clear hb hll hpre hpl
    go_enter Try.func23, Try.ntmps23
    go_wp2_with fail
    refine (HA.out _).mono ?_; rintro e w1 ⟨rfl, rfl⟩
    go_wp2_with fail
    refine (HL.out _ (((Ext.refl _).alloc _ _).alloc _ _)).mono ?_; rintro e w1 ⟨rfl, rfl⟩
    go_wp2_with fail
    try simp only [Exit.inBlock, Exit.then]
    exact bodyPost_ret (v := kv (0, 10)) (by simp [results, Try.results23, go_sem]) rfl ⟨ret_kv H.out.symm, by repeat (first | exact hE | exact Ext.refl _ | refine Ext.alloc ?_ _ _ | refine Ext.setNew ?_ _ _ (by simp; try omega) _)⟩
  by_cases hbig : (cols.length : Int) ≤ col
  · have hb : isIx col cols.length = false := (isIx_no _ _).2 (.inr hbig)
    have H := Lib.hid (show chO ⟨2, a, b, col, ⟨kk, n, s⟩⟩ pre cols = (0, 10) by unfold chO; rw [if_neg (by simp [ari]), if_pos (Or.inr ⟨rfl, hb⟩)])
    clear hb hll hpre hpl
    go_enter Try.func23, Try.ntmps23
    go_wp2_with fail
    refine (HA.out _).mono ?_; rintro e w1 ⟨rfl, rfl⟩
    go_wp2_with fail
    refine (HL.out _ (((Ext.refl _).alloc _ _).alloc _ _)).mono ?_; rintro e w1 ⟨rfl, rfl⟩
    go_wp2_with fail
    try simp only [Exit.inBlock, Exit.then]
    exact bodyPost_ret (v := kv (0, 10)) (by simp [results, Try.results23, go_sem]) rfl ⟨ret_kv H.out.symm, by repeat (first | exact hE | exact Ext.refl _ | refine Ext.alloc ?_ _ _ | refine Ext.setNew ?_ _ _ (by simp; try omega) _)⟩
  have hb : isIx col cols.length = true := (isIx_iff _ _).2 ⟨by omega, by omega⟩
  obtain ⟨j, rfl⟩ := nat_of (show (0 : Int) ≤ col by omega)
  have hj : j < cols.length := by omega
  have hjl : (j : Int) < (cols.length : Int) := by omega
  have H := Lib.hid (show chO ⟨2, a, b, j, ⟨kk, n, s⟩⟩ pre cols = (cols[j], 0) by unfold chO; rw [hpl, if_neg (by simp [ari]), if_neg (by simp [hll, hb]), if_neg (by simp [ari]), if_neg (by simp [ari]), if_pos rfl, atI_at _ _ hj])
  obtain ⟨g2, o2, rfl, d0⟩ := rd_I HC.out j hj
  have hg2 : g2 < w.heap.size := World.block_lt_of_cell? _ _ d0
  generalize cols[j] = kc at *
  clear hb hll hpre hpl
  go_enter Try.func23, Try.ntmps23
  go_wp2_with fail
  refine (HA.out _).mono ?_; rintro e w1 ⟨rfl, rfl⟩
  go_wp2_with fail
  refine (HL.out _ (((Ext.refl _).alloc _ _).alloc _ _)).mono ?_; rintro e w1 ⟨rfl, rfl⟩
  go_wp2_with fail
  try simp only [Exit.inBlock, Exit.then]
  exact bodyPost_ret (v := kv (kc, 0)) (by simp [results, Try.results23, go_sem]) rfl ⟨ret_kv H.out.symm, by repeat (first | exact hE | exact Ext.refl _ | refine Ext.alloc ?_ _ _ | refine Ext.setNew ?_ _ _ (by simp; try omega) _)⟩
set_option maxHeartbeats 4000000 in
set_option maxRecDepth 100000 in
theorem oneR_bad (l : List X) (k : Nat) (cols : List Int) (D : List (Int × Int)) (vl vc vd : Value) (w : World) (hl : RdG w vl l) (hc : RdG w vc cols) (hd : RdG w vd D) (hk : k < l.length) (hD : k ≤ D.length) (ho : ari l[k].op = 1 ∨ ari l[k].op = 2) (hb : lgl l[k] k = false) :
    Calls Try.prog 23 #[vl, .int .i64 k, vc, vd] w fun e w' => e = .returned (kv (chO l[k] (D.take k) cols)) ∧ Ext w w' := by
  obtain ⟨al, cl, rfl, l1, l2⟩ := hl.shape
  obtain ⟨ac, cc, rfl, lc1, lc2⟩ := hc.shape
  obtain ⟨ad, cd, rfl, ld1, ld2⟩ := hd.shape
  obtain ⟨g, o, rfl, c0, c1, c2, c3, c4, c5, c6⟩ := rd_X hl k hk
  have hgl : g < w.heap.size := World.block_lt_of_cell? _ _ c0
  have hA := ari_ref l[k].op
  have hL := fun w' (e : Ext w w') => lgl_ref l k _ w' (hl.ext e) hk
  have hV := vld_ref l[k].c
  have hi0 : (0 : Int) ≤ (k : Int) := by omega
  have hi1 : (k : Int) < (l.length : Int) := by omega
  have hpl : (D.take k).length = k := by rw [List.length_take]; omega
  have hpre : ∀ j : Nat, j < k → atK (D.take k) j = atK D j := fun j hj => take_getD D k j _ hj
  generalize D.take k = pre at hpl hpre ⊢
  generalize l[k] = x at *
  obtain ⟨op, a, b, col, ⟨kk, n, s⟩⟩ := x
  simp only at c0 c1 c2 c3 c4 c5 c6 hA hV ho
  unfold maxLen at l2 lc2 ld2
  have HD := Lib.hid hd
  have HC := Lib.hid hc
  clear hl hc hd
  rw [hb] at hL
  have h1 : op ≠ 1 := by rintro rfl; exact absurd ho (by decide)
  have h2 : op ≠ 2 := by rintro rfl; exact absurd ho (by decide)
  have e1 : (op == 1) = false := by simpa using h1
  have e2 : (op == 2) = false := by simpa using h2
  have H := Lib.hid (show chO ⟨op, a, b, col, ⟨kk, n, s⟩⟩ pre cols = (0, 10) by unfold chO; rw [hpl, if_neg (by simp only; omega), if_pos (Or.inl hb)])
  have HL := Lib.hid hL
  generalize ari op = r at *
  have hr : ¬ r < 0 := by omega
  have HA := Lib.hid hA
  clear hA hL hV hb ho h1 h2 hpre hpl
  go_enter Try.func23, Try.ntmps23
  go_wp2_with fail
  refine (HA.out _).mono ?_; rintro e w1 ⟨rfl, rfl⟩
  go_wp2_with fail
  refine (HL.out _ (((Ext.refl _).alloc _ _).alloc _ _)).mono ?_; rintro e w1 ⟨rfl, rfl⟩
  go_wp2_with fail
  try simp only [Exit.inBlock, Exit.then]
  exact bodyPost_ret (v := kv (0, 10)) (by simp [results, Try.results23, go_sem]) rfl ⟨ret_kv H.out.symm, by repeat (first | exact hE | exact Ext.refl _ | refine Ext.alloc ?_ _ _ | refine Ext.setNew ?_ _ _ (by simp; try omega) _)⟩
set_option maxHeartbeats 4000000 in
set_option maxRecDepth 100000 in
theorem oneR_a (l : List X) (k : Nat) (cols : List Int) (D : List (Int × Int)) (vl vc vd : Value) (w : World) (hl : RdG w vl l) (hc : RdG w vc cols) (hd : RdG w vd D) (hk : k < l.length) (hD : k ≤ D.length) (ho : ari l[k].op = 1 ∨ ari l[k].op = 2) (hb : lgl l[k] k = true) (hq : (atK D l[k].a).2 ≠ 0) :
    Calls Try.prog 23 #[vl, .int .i64 k, vc, vd] w fun e w' => e = .returned (kv (chO l[k] (D.take k) cols)) ∧ Ext w w' := by
  obtain ⟨al, cl, rfl, l1, l2⟩ := hl.shape
  obtain ⟨ac, cc, rfl, lc1, lc2⟩ := hc.shape
  obtain ⟨ad, cd, rfl, ld1, ld2⟩ := hd.shape
  obtain ⟨g, o, rfl, c0, c1, c2, c3, c4, c5, c6⟩ := rd_X hl k hk
  have hgl : g < w.heap.size := World.block_lt_of_cell? _ _ c0
  have hA := ari_ref l[k].op
  have hL := fun w' (e : Ext w w') => lgl_ref l k _ w' (hl.ext e) hk
  have hV := vld_ref l[k].c
  have hi0 : (0 : Int) ≤ (k : Int) := by omega
  have hi1 : (k : Int) < (l.length : Int) := by omega
  have hpl : (D.take k).length = k := by rw [List.length_take]; omega
  have hpre : ∀ j : Nat, j < k → atK (D.take k) j = atK D j := fun j hj => take_getD D k j _ hj
  generalize D.take k = pre at hpl hpre ⊢
  generalize l[k] = x at *
  obtain ⟨op, a, b, col, ⟨kk, n, s⟩⟩ := x
  simp only at c0 c1 c2 c3 c4 c5 c6 hA hV ho
  unfold maxLen at l2 lc2 ld2
  have HD := Lib.hid hd
  have HC := Lib.hid hc
  clear hl hc hd
  simp only at hq
  have hx := lgA_lt (lgA_of hb (show 1 ≤ ari op by omega))
  simp only at hx
  obtain ⟨j, rfl⟩ := nat_of hx.1
  have hj : j < D.length := by omega
  have hjl : (j : Int) < (D.length : Int) := by omega
  have hja : atK pre j = D[j] := by rw [hpre j (by omega), atK_at _ _ hj]
  obtain ⟨g2, o2, rfl, d0, d1⟩ := rd_K HD.out j hj
  have hg2 : g2 < w.heap.size := World.block_lt_of_cell? _ _ d0
  rw [atK_at _ _ hj] at hq
  generalize D[j] = pq at *
  obtain ⟨p, q⟩ := pq
  simp only at d0 d1 hq
  rw [hb] at hL
  have h1 : op ≠ 1 := by rintro rfl; exact absurd ho (by decide)
  have h2 : op ≠ 2 := by rintro rfl; exact absurd ho (by decide)
  have e1 : (op == 1) = false := by simpa using h1
  have e2 : (op == 2) = false := by simpa using h2
  have H := Lib.hid (show chO ⟨op, j, b, col, ⟨kk, n, s⟩⟩ pre cols = (0, q) by
    unfold chO; rw [hpl, if_neg (by simp only; omega), if_neg (by simp [hb, h2])]
    rcases ho with ho | ho
    · rw [if_pos ho]; simp only; rw [hja]; unfold unO; rw [if_pos hq]
    · rw [if_neg (by simp only; omega), if_pos ho]; simp only; rw [hja]; unfold biO; rw [if_pos hq])
  have HL := Lib.hid hL
  generalize ari op = r at *
  have hr : ¬ r < 0 := by omega
  have hr1 : 0 < r := by omega
  have hq' : (q == 0) = false := by simpa using hq
  have HA := Lib.hid hA
  clear hA hL hV hb ho h1 h2 hpre hpl hja hx
  go_enter Try.func23, Try.ntmps23
  go_wp2_with fail
  refine (HA.out _).mono ?_; rintro e w1 ⟨rfl, rfl⟩
  go_wp2_with fail
  refine (HL.out _ (((Ext.refl _).alloc _ _).alloc _ _)).mono ?_; rintro e w1 ⟨rfl, rfl⟩
  go_wp2_with fail
  try simp only [Exit.inBlock, Exit.then]
  exact bodyPost_ret (v := kv (0, q)) (by simp [results, Try.results23, go_sem]) rfl ⟨ret_kv H.out.symm, by repeat (first | exact hE | exact Ext.refl _ | refine Ext.alloc ?_ _ _ | refine Ext.setNew ?_ _ _ (by simp; try omega) _)⟩
end Go.Proofs.Ytdamlnfjhpmpmaa
