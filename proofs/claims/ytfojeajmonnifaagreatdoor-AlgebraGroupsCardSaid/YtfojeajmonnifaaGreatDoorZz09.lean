/- The type of one expression, of the program. -/
import Derived.Test.YtfojeajmonnifaaGreatDoorZz06
import Derived.Test.YtfojeajmonnifaaGreatDoorZz08
namespace Go.Proofs.YtfojeajmonnifaaGreatDoor
open Go.ChangeShapes Go.WideShapes Go.ChangeAt Go.RowKit

abbrev boxX (x : X) : Array Value := #[.int .i64 x.op, .int .i64 x.a, .int .i64 x.b, .int .i64 x.col, .int .i64 x.c.k, .int .i64 x.c.n, sv x.c.s]
/-- the boxes of an expression and of a result, behind a call that grows the world -/
theorem box2 {w w1 : World} (c d : Array Value) (t u : TypeId) (hg : Grown ((w.alloc (.cells c t)).alloc (.cells d u)) w1) (j : Nat) (v : Value) (h : c[j]? = some v) : w1.cell? ⟨w.heap.size, j, none⟩ = some v :=
  kept hg (kept ((Grown.refl _).alloc _ _) (al_c w c t j v h))
theorem box2r {w w1 : World} (c d : Array Value) (t u : TypeId) (hg : Grown ((w.alloc (.cells c t)).alloc (.cells d u)) w1) (j : Nat) (v : Value) (h : d[j]? = some v) : w1.cell? ⟨w.heap.size + 1, j, none⟩ = some v := by
  have := al_c (w.alloc (.cells c t)) d u j v h
  rw [alsz] at this
  exact kept hg this
theorem box2f {w w1 : World} (c d : Array Value) (t u : TypeId) (hg : Grown ((w.alloc (.cells c t)).alloc (.cells d u)) w1) (j : Nat) : w1.frozen? ⟨w.heap.size + 1, j, none⟩ = false := by
  rw [hg.2.1, frozen?_alloc_cells, frozen?_alloc_cells]; exact frozen_new _ _ _ (by omega)
theorem set2far {X : World} {b c o p q : Nat} {u x y : Value} (hne : b ≠ c) (h : X.cell? ⟨c, o, none⟩ = some u) : ((X.setCell ⟨b, p, none⟩ x).setCell ⟨b, q, none⟩ y).cell? ⟨c, o, none⟩ = some u := by
  rw [World.cell?_setCell_far _ _ _ _ hne, World.cell?_setCell_far _ _ _ _ hne]; exact h
theorem clean_at {pre : List (Int × Int)} (h : Clean pre) (j : Nat) (hj : j < pre.length) : pre[j].2 ≠ 0 → pre[j].1 = 0 := by
  have := h (j : Int)
  simpa [atK, List.getD, hj] using this
theorem atK_at (pre : List (Int × Int)) (j : Nat) (hj : j < pre.length) : atK pre (j : Int) = pre[j] := by simp [atK, List.getD, hj]
theorem atI_at (l : List Int) (j : Nat) (hj : j < l.length) : atI l (j : Int) = l[j] := by simp [atI, List.getD, hj]
theorem atV_at (l : List V) (j : Nat) (hj : j < l.length) : atV l (j : Int) = l[j] := by simp [atV, List.getD, hj]
theorem nat_of {i : Int} (h : 0 ≤ i) : ∃ j : Nat, i = (j : Int) := ⟨i.toNat, by omega⟩
set_option maxHeartbeats 4000000 in
theorem one_prg (x : X) (pre : List (Int × Int)) (cols : List Int) (vp vc : Value) (w : World) (hp : RdG w vp pre) (hc : RdG w vc cols) (hcl : Clean pre) : Calls Tryz.prog 186 #[xv x, vp, vc] w fun e w' => e = .returned (kv (chO x pre cols)) ∧ Ext w w' := by
  obtain ⟨ap, cp, rfl, lp1, lp2⟩ := hp.shape
  obtain ⟨ac, cc, rfl, lc1, lc2⟩ := hc.shape
  have hv := ari_vals x.op
  have hA := ari_prg x.op
  have hL := lgl_prg x pre.length
  have hV := vld_val x.c
  have hI := isx_prg x.col cols.length
  have HP := Lib.hid hp
  have HC := Lib.hid hc
  have HCL := Lib.hid hcl
  clear hp hc hcl
  unfold maxLen at lp2 lc2
  obtain ⟨op, a, b, col, ⟨k, n, s⟩⟩ := x
  simp only at hv hA hV hI
  by_cases hu : ari op = -1
  · have H := Lib.hid (show chO ⟨op, a, b, col, ⟨k, n, s⟩⟩ pre cols = (0, 5) by unfold chO; rw [if_pos (Or.inl hu)])
    rw [hu] at hA
    have HA := Lib.hid hA
    clear hA hv hL hV hI hu
    go_enter Tryz.func186, Tryz.ntmps186
    go_wp2_with fail
    refine (HA.out _).mono ?_; rintro e w1 ⟨rfl, rfl⟩
    go_wp2_with fail
    exact bodyPost_ret (v := kv (0, 5)) (by simp [results, Tryz.results186, go_sem]) rfl ⟨ret_kv H.out.symm, by repeat (first | exact Ext.refl _ | refine Ext.alloc ?_ _ _ | refine Ext.setNew ?_ _ _ (by simp; try omega) _)⟩
  by_cases h1 : op = 1
  · subst h1
    have ha : ari 1 = 0 := by decide
    rw [ha] at hA
    have HA := Lib.hid hA
    clear hA hv hI hu ha
    cases hb : vldB ⟨k, n, s⟩ with
    | false =>
      have H := Lib.hid (show chO ⟨1, a, b, col, ⟨k, n, s⟩⟩ pre cols = (0, 5) by unfold chO; rw [if_pos (Or.inr ⟨rfl, hb⟩)])
      rw [hb] at hV
      have HV := Lib.hid hV
      clear hV hb hL
      go_enter Tryz.func186, Tryz.ntmps186
      go_wp2_with fail
      refine (HA.out _).mono ?_; rintro e w1 ⟨rfl, rfl⟩
      go_wp2_with fail
      refine (HV.out _).mono ?_; rintro e w1 ⟨rfl, hg⟩
      have k0 := box2r _ _ _ _ hg 0 (.int .i64 0) rfl
      have k1 := box2r _ _ _ _ hg 1 (.int .i64 0) rfl
      obtain ⟨gc, gf⟩ := gcell hg
      have hsz : w.heap.size + 1 < w1.heap.size := by have := hg.2.2; rw [alsz, alsz] at this; omega
      have hE : Ext w w1 := (((Ext.refl _).alloc _ _).alloc _ _).trans (ext_of_grown hg)
      go_wp2_with fail
      exact bodyPost_ret (v := kv (0, 5)) (by simp [results, Tryz.results186, go_sem, k0, k1]) rfl ⟨ret_kv H.out.symm, by repeat (first | exact hE | exact Ext.refl _ | refine Ext.alloc ?_ _ _ | refine Ext.setNew ?_ _ _ (by simp; try omega) _)⟩
    | true =>
      have hll : lgl ⟨1, a, b, col, ⟨k, n, s⟩⟩ pre.length = true := lgl_none (show ari 1 < 1 by decide)
      have H := Lib.hid (show chO ⟨1, a, b, col, ⟨k, n, s⟩⟩ pre cols = (k, 0) by unfold chO; rw [if_neg (by simp [hb, ari]), if_neg (by simp [hll]), if_neg (by simp [ari]), if_neg (by simp [ari]), if_neg (by simp)])
      rw [hb] at hV
      rw [hll] at hL
      have HV := Lib.hid hV
      have HL := Lib.hid hL
      clear hV hb hL hll
      go_enter Tryz.func186, Tryz.ntmps186
      go_wp2_with fail
      refine (HA.out _).mono ?_; rintro e w1 ⟨rfl, rfl⟩
      go_wp2_with fail
      refine (HV.out _).mono ?_; rintro e w1 ⟨rfl, hg⟩
      have k0 := box2r _ _ _ _ hg 0 (.int .i64 0) rfl
      have k1 := box2r _ _ _ _ hg 1 (.int .i64 0) rfl
      obtain ⟨gc, gf⟩ := gcell hg
      have hsz : w.heap.size + 1 < w1.heap.size := by have := hg.2.2; rw [alsz, alsz] at this; omega
      go_wp2_with fail
      refine (HL.out _).mono ?_; rintro e w2 ⟨rfl, hg'⟩
      have hG := grown_trans hg hg'
      have k0 := box2r _ _ _ _ hG 0 (.int .i64 0) rfl
      have k1 := box2r _ _ _ _ hG 1 (.int .i64 0) rfl
      obtain ⟨gc2, gf2⟩ := gcell hG
      have hsz2 : w.heap.size + 1 < w2.heap.size := by have := hG.2.2; rw [alsz, alsz] at this; omega
      have hE : Ext w w2 := (((Ext.refl _).alloc _ _).alloc _ _).trans (ext_of_grown hG)
      go_wp2_with fail
      refine (HA.out _).mono ?_; rintro e w3 ⟨rfl, rfl⟩
      go_wp2_with fail
      exact bodyPost_ret (v := kv (k, 0)) (by simp [results, Tryz.results186, go_sem, k0, k1]) rfl ⟨ret_kv H.out.symm, by repeat (first | exact hE | exact Ext.refl _ | refine Ext.alloc ?_ _ _ | refine Ext.setNew ?_ _ _ (by simp; try omega) _)⟩
  by_cases h2 : op = 2
  · subst h2
    have ha : ari 2 = 0 := by decide
    rw [ha] at hA
    have HA := Lib.hid hA
    have hll : lgl ⟨2, a, b, col, ⟨k, n, s⟩⟩ pre.length = true := lgl_none (show ari 2 < 1 by decide)
    rw [hll] at hL
    have HL := Lib.hid hL
    clear hA hv hV hu ha hL h1
    cases hb : isIx col cols.length with
    | false =>
      have H := Lib.hid (show chO ⟨2, a, b, col, ⟨k, n, s⟩⟩ pre cols = (0, 10) by unfold chO; rw [if_neg (by simp [ari]), if_pos (Or.inr ⟨rfl, hb⟩)])
      rw [hb] at hI
      have HI := Lib.hid hI
      clear hI hb hll
      go_enter Tryz.func186, Tryz.ntmps186
      go_wp2_with fail
      refine (HA.out _).mono ?_; rintro e w1 ⟨rfl, rfl⟩
      go_wp2_with fail
      refine (HL.out _).mono ?_; rintro e w1 ⟨rfl, hg⟩
      have k0 := box2r _ _ _ _ hg 0 (.int .i64 0) rfl
      have k1 := box2r _ _ _ _ hg 1 (.int .i64 0) rfl
      obtain ⟨gc, gf⟩ := gcell hg
      have hsz : w.heap.size + 1 < w1.heap.size := by have := hg.2.2; rw [alsz, alsz] at this; omega
      have hE : Ext w w1 := (((Ext.refl _).alloc _ _).alloc _ _).trans (ext_of_grown hg)
      go_wp2_with fail
      refine (HI.out _).mono ?_; rintro e w2 ⟨rfl, rfl⟩
      go_wp2_with fail
      exact bodyPost_ret (v := kv (0, 10)) (by simp [results, Tryz.results186, go_sem, k0, k1]) rfl ⟨ret_kv H.out.symm, by repeat (first | exact hE | exact Ext.refl _ | refine Ext.alloc ?_ _ _ | refine Ext.setNew ?_ _ _ (by simp; try omega) _)⟩
    | true =>
      have hx := (isIx_iff _ _).1 hb
      obtain ⟨j, rfl⟩ := nat_of hx.1
      have hj : j < cols.length := by omega
      have hll' := hll
      have H := Lib.hid (show chO ⟨2, a, b, j, ⟨k, n, s⟩⟩ pre cols = (cols[j], 0) by unfold chO; rw [if_neg (by simp [ari]), if_neg (by simp [hll', hb]), if_neg (by simp [ari]), if_neg (by simp [ari]), if_pos rfl, atI_at _ _ hj])
      rw [hb] at hI
      have HI := Lib.hid hI
      obtain ⟨g, o, rfl, c0⟩ := rd_I HC.out j hj
      generalize cols[j] = kc at *
      have hjl : (j : Int) < (cols.length : Int) := by omega
      clear hI hb hll hll' hx
      go_enter Tryz.func186, Tryz.ntmps186
      go_wp2_with fail
      refine (HA.out _).mono ?_; rintro e w1 ⟨rfl, rfl⟩
      go_wp2_with fail
      refine (HL.out _).mono ?_; rintro e w1 ⟨rfl, hg⟩
      have k0 := box2r _ _ _ _ hg 0 (.int .i64 0) rfl
      have k1 := box2r _ _ _ _ hg 1 (.int .i64 0) rfl
      obtain ⟨gc, gf⟩ := gcell hg
      have hsz : w.heap.size + 1 < w1.heap.size := by have := hg.2.2; rw [alsz, alsz] at this; omega
      have hE : Ext w w1 := (((Ext.refl _).alloc _ _).alloc _ _).trans (ext_of_grown hg)
      have c0' := hE.keeps c0
      go_wp2_with fail
      refine (HI.out _).mono ?_; rintro e w2 ⟨rfl, rfl⟩
      go_wp2_with fail
      refine (HA.out _).mono ?_; rintro e w3 ⟨rfl, rfl⟩
      go_wp2_with fail
      exact bodyPost_ret (v := kv (kc, 0)) (by simp [results, Tryz.results186, go_sem, k0, k1]) rfl ⟨ret_kv H.out.symm, by repeat (first | exact hE | exact Ext.refl _ | refine Ext.alloc ?_ _ _ | refine Ext.setNew ?_ _ _ (by simp; try omega) _)⟩
  have c1 : (op == 1) = false := by simpa using h1
  have c2 : (op == 2) = false := by simpa using h2
  have hr : ari op = 1 ∨ ari op = 2 := by
    rcases hv with h | h | h | h
    · exact absurd h hu
    · unfold ari at h; split at h
      · omega
      · split at h
        · omega
        · split at h <;> omega
    · exact Or.inl h
    · exact Or.inr h
  have hop2 : ari op = 2 → 3 ≤ op ∧ op ≤ 9 := by
    intro h; unfold ari at h; split at h
    · omega
    · split at h
      · omega
      · split at h
        · assumption
        · omega
  clear hV hI hv hu
  cases hb : lgl ⟨op, a, b, col, ⟨k, n, s⟩⟩ pre.length with
  | false =>
    have H := Lib.hid (show chO ⟨op, a, b, col, ⟨k, n, s⟩⟩ pre cols = (0, 10) by unfold chO; rw [if_neg (by simp only; omega), if_pos (Or.inl hb)])
    rw [hb] at hL
    have HL := Lib.hid hL
    generalize ari op = r at *
    have HA := Lib.hid hA
    have hrn : (r == -1) = false := by rcases hr with rfl | rfl <;> rfl
    clear hA hL hb hr h1 h2 hop2
    go_enter Tryz.func186, Tryz.ntmps186
    go_wp2_with fail
    refine (HA.out _).mono ?_; rintro e w1 ⟨rfl, rfl⟩
    go_wp2_with fail
    refine (HL.out _).mono ?_; rintro e w1 ⟨rfl, hg⟩
    have k0 := box2r _ _ _ _ hg 0 (.int .i64 0) rfl
    have k1 := box2r _ _ _ _ hg 1 (.int .i64 0) rfl
    obtain ⟨gc, gf⟩ := gcell hg
    have hsz : w.heap.size + 1 < w1.heap.size := by have := hg.2.2; rw [alsz, alsz] at this; omega
    have hE : Ext w w1 := (((Ext.refl _).alloc _ _).alloc _ _).trans (ext_of_grown hg)
    go_wp2_with fail
    exact bodyPost_ret (v := kv (0, 10)) (by simp [results, Tryz.results186, go_sem, k0, k1]) rfl ⟨ret_kv H.out.symm, by repeat (first | exact hE | exact Ext.refl _ | refine Ext.alloc ?_ _ _ | refine Ext.setNew ?_ _ _ (by simp; try omega) _)⟩
  | true =>
    rw [hb] at hL
    have HL := Lib.hid hL
    rcases hr with hr | hr
    · have hx := lgA_lt (lgl_one (x := ⟨op, a, b, col, ⟨k, n, s⟩⟩) hr ▸ hb)
      simp only at hx
      obtain ⟨j, rfl⟩ := nat_of hx.1
      have hj : j < pre.length := by omega
      have hU := un_prg op pre[j] (clean_at HCL.out j hj)
      have hH : chO ⟨op, j, b, col, ⟨k, n, s⟩⟩ pre cols = unO op pre[j] := by
        unfold chO; rw [if_neg (by simp only; omega), if_neg (by simp only [hb]; simp [h2]), if_pos hr, atK_at _ _ hj]
      generalize unO op pre[j] = pq at *
      obtain ⟨p, q⟩ := pq
      obtain ⟨g, o, rfl, c0, d0⟩ := rd_K HP.out j hj
      generalize pre[j] = ke at *
      obtain ⟨kk, ee⟩ := ke
      have H := Lib.hid hH
      have HU := Lib.hid hU
      rw [hr] at hA
      have HA := Lib.hid hA
      have hjl : (j : Int) < (pre.length : Int) := by omega
      clear hA hL hb hr hU hH hx hop2
      simp only at c0 d0
      go_enter Tryz.func186, Tryz.ntmps186
      go_wp2_with fail
      refine (HA.out _).mono ?_; rintro e w1 ⟨rfl, rfl⟩
      go_wp2_with fail
      refine (HL.out _).mono ?_; rintro e w1 ⟨rfl, hg⟩
      have k0 := box2r _ _ _ _ hg 0 (.int .i64 0) rfl
      have k1 := box2r _ _ _ _ hg 1 (.int .i64 0) rfl
      have kf0 := box2f _ _ _ _ hg 0
      have kf1 := box2f _ _ _ _ hg 1
      have K0 := Lib.hid (box2 _ _ _ _ hg 0 (.int .i64 op) rfl)
      have K1 := Lib.hid (box2 _ _ _ _ hg 1 (.int .i64 j) rfl)
      obtain ⟨gc, gf⟩ := gcell hg
      have hsz : w.heap.size + 1 < w1.heap.size := by have := hg.2.2; rw [alsz, alsz] at this; omega
      have hE : Ext w w1 := (((Ext.refl _).alloc _ _).alloc _ _).trans (ext_of_grown hg)
      have n0 : w.heap.size + 1 ≠ w.heap.size := by omega
      have n1 : w.heap.size + 1 ≠ g := by have := World.block_lt_of_cell? _ _ c0; simp only at this; omega
      have K2 := Lib.hid (hE.keeps c0)
      have K3 := Lib.hid (hE.keeps d0)
      go_wp2_with fail
      refine (HA.out _).mono ?_; rintro e w3 ⟨rfl, rfl⟩
      have Kk0 := Lib.hid k0
      have Kk1 := Lib.hid k1
      clear gc gf hg k0 k1
      go_wp2_with fail
      go_region_held3 (fun w' => w'.cell? ⟨w.heap.size, 0, none⟩ = some (.int .i64 op) ∧ w'.cell? ⟨w.heap.size, 1, none⟩ = some (.int .i64 j) ∧ w'.cell? ⟨g, o + j * 2, none⟩ = some (.int .i64 kk) ∧ w'.cell? ⟨g, o + j * 2 + 1, none⟩ = some (.int .i64 ee)) (first | exact ⟨K0.out, K1.out, K2.out, K3.out⟩ | exact ⟨f0, f1, f2, f3⟩ | exact ⟨set2far n0 f0, set2far n0 f1, set2far n1 f2, set2far n1 f3⟩ | go_keep)
        (first | (go_at_call 198; refine (heldE w1 (HU.out _) ?_).mono ?_; (first | assumption | exact Ext.refl _ | exact (Ext.refl _).drew); rintro e w3 ⟨rfl, -, qG⟩; have f0 := qG.keeps K0.out; have f1 := qG.keeps K1.out; have f2 := qG.keeps K2.out; have f3 := qG.keeps K3.out; have k0 := qG.keeps Kk0.out; have k1 := qG.keeps Kk1.out; have hs3 : w.heap.size + 1 < w3.heap.size := Nat.lt_of_lt_of_le hsz qG.2.2; have e0 := (qG.2.1 ⟨w.heap.size + 1, 0, none⟩ hsz).trans kf0; have e1 := (qG.2.1 ⟨w.heap.size + 1, 1, none⟩ hsz).trans kf1))
      go_wp2_with fail
      exact bodyPost_ret (v := kv (p, q)) (by simp [results, Tryz.results186, go_sem, k0, k1]) rfl ⟨ret_kv H.out.symm, by repeat (first | exact hE.trans qG | exact Ext.refl _ | refine Ext.alloc ?_ _ _ | refine Ext.setNew ?_ _ _ (by simp; try omega) _)⟩
    · have hlg := lgl_two (x := ⟨op, a, b, col, ⟨k, n, s⟩⟩) hr ▸ hb
      rw [Bool.and_eq_true] at hlg
      have hx := lgA_lt hlg.1
      have hy := lgB_lt hlg.2
      simp only at hx hy
      obtain ⟨j, rfl⟩ := nat_of hx.1
      obtain ⟨i, rfl⟩ := nat_of hy.1
      have hj : j < pre.length := by omega
      have hi : i < pre.length := by omega
      have hU := bi_prg op (hop2 hr) pre[j] pre[i] (clean_at HCL.out j hj) (clean_at HCL.out i hi)
      have hH : chO ⟨op, j, i, col, ⟨k, n, s⟩⟩ pre cols = biO op pre[j] pre[i] := by
        unfold chO; rw [if_neg (by simp only; omega), if_neg (by simp only [hb]; simp [h2]), if_neg (by simp only; omega), if_pos hr, atK_at _ _ hj, atK_at _ _ hi]
      generalize biO op pre[j] pre[i] = pq at *
      obtain ⟨p, q⟩ := pq
      obtain ⟨g, o, rfl, c0, d0⟩ := rd_K HP.out j hj
      obtain ⟨g2, o2, e2, c3, d3⟩ := rd_K HP.out i hi
      simp only [Option.some.injEq, Addr.mk.injEq, and_true] at e2
      obtain ⟨rfl, rfl⟩ := e2
      generalize pre[j] = ke at *
      generalize pre[i] = kf at *
      obtain ⟨kk, ee⟩ := ke
      obtain ⟨ll, ff⟩ := kf
      have H := Lib.hid hH
      have HU := Lib.hid hU
      rw [hr] at hA
      have HA := Lib.hid hA
      have hjl : (j : Int) < (pre.length : Int) := by omega
      have hil : (i : Int) < (pre.length : Int) := by omega
      clear hA hL hb hr hU hH hx hy hlg hop2
      simp only at c0 d0 c3 d3
      go_enter Tryz.func186, Tryz.ntmps186
      go_wp2_with fail
      refine (HA.out _).mono ?_; rintro e w1 ⟨rfl, rfl⟩
      go_wp2_with fail
      refine (HL.out _).mono ?_; rintro e w1 ⟨rfl, hg⟩
      have k0 := box2r _ _ _ _ hg 0 (.int .i64 0) rfl
      have k1 := box2r _ _ _ _ hg 1 (.int .i64 0) rfl
      have kf0 := box2f _ _ _ _ hg 0
      have kf1 := box2f _ _ _ _ hg 1
      have K0 := Lib.hid (box2 _ _ _ _ hg 0 (.int .i64 op) rfl)
      have K1 := Lib.hid (box2 _ _ _ _ hg 1 (.int .i64 j) rfl)
      have K4 := Lib.hid (box2 _ _ _ _ hg 2 (.int .i64 i) rfl)
      obtain ⟨gc, gf⟩ := gcell hg
      have hsz : w.heap.size + 1 < w1.heap.size := by have := hg.2.2; rw [alsz, alsz] at this; omega
      have hE : Ext w w1 := (((Ext.refl _).alloc _ _).alloc _ _).trans (ext_of_grown hg)
      have n0 : w.heap.size + 1 ≠ w.heap.size := by omega
      have n1 : w.heap.size + 1 ≠ g := by have := World.block_lt_of_cell? _ _ c0; simp only at this; omega
      have K2 := Lib.hid (hE.keeps c0)
      have K3 := Lib.hid (hE.keeps d0)
      have K5 := Lib.hid (hE.keeps c3)
      have K6 := Lib.hid (hE.keeps d3)
      go_wp2_with fail
      refine (HA.out _).mono ?_; rintro e w3 ⟨rfl, rfl⟩
      have Kk0 := Lib.hid k0
      have Kk1 := Lib.hid k1
      clear gc gf hg k0 k1
      go_wp2_with fail
      go_region_held3 (fun w' => w'.cell? ⟨w.heap.size, 0, none⟩ = some (.int .i64 op) ∧ w'.cell? ⟨w.heap.size, 1, none⟩ = some (.int .i64 j) ∧ w'.cell? ⟨g, o + j * 2, none⟩ = some (.int .i64 kk) ∧ w'.cell? ⟨g, o + j * 2 + 1, none⟩ = some (.int .i64 ee) ∧ w'.cell? ⟨w.heap.size, 2, none⟩ = some (.int .i64 i) ∧ w'.cell? ⟨g, o + i * 2, none⟩ = some (.int .i64 ll) ∧ w'.cell? ⟨g, o + i * 2 + 1, none⟩ = some (.int .i64 ff)) (first | exact ⟨K0.out, K1.out, K2.out, K3.out, K4.out, K5.out, K6.out⟩ | exact ⟨f0, f1, f2, f3, f4, f5, f6⟩ | exact ⟨set2far n0 f0, set2far n0 f1, set2far n1 f2, set2far n1 f3, set2far n0 f4, set2far n1 f5, set2far n1 f6⟩ | go_keep)
        (first | (go_at_call 199; refine (heldE w1 (HU.out _) ?_).mono ?_; (first | assumption | exact Ext.refl _ | exact (Ext.refl _).drew); rintro e w3 ⟨rfl, -, qG⟩; have f0 := qG.keeps K0.out; have f1 := qG.keeps K1.out; have f2 := qG.keeps K2.out; have f3 := qG.keeps K3.out; have f4 := qG.keeps K4.out; have f5 := qG.keeps K5.out; have f6 := qG.keeps K6.out; have k0 := qG.keeps Kk0.out; have k1 := qG.keeps Kk1.out; have hs3 : w.heap.size + 1 < w3.heap.size := Nat.lt_of_lt_of_le hsz qG.2.2; have e0 := (qG.2.1 ⟨w.heap.size + 1, 0, none⟩ hsz).trans kf0; have e1 := (qG.2.1 ⟨w.heap.size + 1, 1, none⟩ hsz).trans kf1))
      go_wp2_with fail
      exact bodyPost_ret (v := kv (p, q)) (by simp [results, Tryz.results186, go_sem, k0, k1]) rfl ⟨ret_kv H.out.symm, by repeat (first | exact hE.trans qG | exact Ext.refl _ | refine Ext.alloc ?_ _ _ | refine Ext.setNew ?_ _ _ (by simp; try omega) _)⟩
end Go.Proofs.YtfojeajmonnifaaGreatDoor
