/- The type of one expression, of the program. -/
import Derived.Test.YtbplapkcleipiaaGreatDoorZz04
import Derived.Test.YtbplapkcleipiaaGreatDoorZz09
import Derived.Test.YtbplapkcleipiaaGreatDoorZz10
namespace Go.Proofs.YtbplapkcleipiaaGreatDoor
open Go.ChangeShapes Go.WideShapes Go.ChangeAt Go.RowKit

abbrev boxX (x : X) : Array Value := #[.int .i64 x.op, .int .i64 x.a, .int .i64 x.b, .int .i64 x.col, .int .i64 x.c.k, .int .i64 x.c.n, sv x.c.s]
/-- the boxes of an expression and of a result, behind a call that grows the world -/
theorem box2 {w w1 : World} (c d : Array Value) (t u : TypeId) (hg : Grown ((w.alloc (.cells c t)).alloc (.cells d u)) w1) (j : Nat) (v : Value) (h : c[j]? = some v) : w1.cell? ⟨w.heap.size, j, none⟩ = some v :=
  kept hg (kept ((Grown.refl _).alloc _ _) (al_c w c t j v h))
theorem box2r {w w1 : World} (c d : Array Value) (t u : TypeId) (hg : Grown ((w.alloc (.cells c t)).alloc (.cells d u)) w1) (j : Nat) (v : Value) (h : d[j]? = some v) : w1.cell? ⟨w.heap.size + 1, j, none⟩ = some v := by
  have := al_c (w.alloc (.cells c t)) d u j v h
  rw [alsz] at this
  exact kept hg this
theorem box2f {w w1 : World} (c d : Array Value) (t u : TypeId) (hg : Grown ((w.alloc (.cells c t)).alloc (.cells d u)) w1) (j : Nat) : w1.frozen? ⟨w.heap.size + 1, j, none⟩ = false := by
  rw [hg.2.1, frozen?_alloc_cells, frozen?_alloc_cells]; exact frozen_new _ _ _ (by omega)
theorem set2far {X : World} {b c o p q : Nat} {u x y : Value} (hne : b ≠ c) (h : X.cell? ⟨c, o, none⟩ = some u) : ((X.setCell ⟨b, p, none⟩ x).setCell ⟨b, q, none⟩ y).cell? ⟨c, o, none⟩ = some u := by
  rw [World.cell?_setCell_far _ _ _ _ hne, World.cell?_setCell_far _ _ _ _ hne]; exact h
theorem clean_at {pre : List (Int × Int)} (h : Clean pre) (j : Nat) (hj : j < pre.length) : pre[j].2 ≠ 0 → pre[j].1 = 0 := by
  have := h (j : Int)
  simpa [atK, List.getD, hj] using this
theorem atK_at (pre : List (Int × Int)) (j : Nat) (hj : j < pre.length) : atK pre (j : Int) = pre[j] := by simp [atK, List.getD, hj]
theorem atI_at (l : List Int) (j : Nat) (hj : j < l.length) : atI l (j : Int) = l[j] := by simp [atI, List.getD, hj]
theorem atV_at (l : List V) (j : Nat) (hj : j < l.length) : atV l (j : Int) = l[j] := by simp [atV, List.getD, hj]
theorem nat_of {i : Int} (h : 0 ≤ i) : ∃ j : Nat, i = (j : Int) := ⟨i.toNat, by omega⟩
set_option maxHeartbeats 4000000 in
theorem one_prg (x : X) (pre : List (Int × Int)) (cols : List Int) (vp vc : Value) (w : World) (hp : RdG w vp pre) (hc : RdG w vc cols) (hcl : Clean pre) : Calls Tryz.prog 141 #[xv x, vp, vc] w fun e w' => e = .returned (kv (chO x pre cols)) ∧ Ext w w' := by
  obtain ⟨ap, cp, rfl, lp1, lp2⟩ := hp.shape
  obtain ⟨ac, cc, rfl, lc1, lc2⟩ := hc.shape
  have hv := ari_vals x.op
  have hA := ari_prg x.op
  have hL := lgl_prg x pre.length
  have hV := vld_val x.c
  have hI := isx_prg x.col cols.length
  have HP := Lib.hid hp
  have HC := Lib.hid hc
  have HCL := Lib.hid hcl
  clear hp hc hcl
  unfold maxLen at lp2 lc2
  obtain ⟨op, a, b, col, ⟨k, n, s⟩⟩ := x
  simp only at hv hA hV hI
  by_cases hu : ari op = -1
  · have H := Lib.hid (show chO ⟨op, a, b, col, ⟨k, n, s⟩⟩ pre cols = (0, 5) by unfold chO; rw [if_pos (Or.inl hu)])
    rw [hu] at hA
    have HA := Lib.hid hA
    clear hA hv hL hV hI hu
    go_enter Tryz.func141, Tryz.ntmps141
    go_wp2_with fail
    refine (HA.out _).mono ?_; rintro e w1 ⟨rfl, rfl⟩
    go_wp2_with fail
    exact bodyPost_ret (v := kv (0, 5)) (by simp [results, Tryz.results141, go_sem]) rfl ⟨ret_kv H.out.symm, by repeat (first | exact Ext.refl _ | refine Ext.alloc ?_ _ _ | refine Ext.setNew ?_ _ _ (by simp; try omega) _)⟩
  by_cases h1 : op = 1
  · subst h1
    have ha : ari 1 = 0 := by decide
    rw [ha] at hA
    have HA := Lib.hid hA
    clear hA hv hI hu ha
    cases hb : vldB ⟨k, n, s⟩ with
    | false =>
      have H := Lib.hid (show chO ⟨1, a, b, col, ⟨k, n, s⟩⟩ pre cols = (0, 5) by unfold chO; rw [if_pos (Or.inr ⟨rfl, hb⟩)])
      rw [hb] at hV
      have HV := Lib.hid hV
      clear hV hb hL
      go_enter Tryz.func141, Tryz.ntmps141
      go_wp2_with fail
      refine (HA.out _).mono ?_; rintro e w1 ⟨rfl, rfl⟩
      go_wp2_with fail
      refine (HV.out _).mono ?_; rintro e w1 ⟨rfl, hg⟩
      have k0 := box2r _ _ _ _ hg 0 (.int .i64 0) rfl
      have k1 := box2r _ _ _ _ hg 1 (.int .i64 0) rfl
      obtain ⟨gc, gf⟩ := gcell hg
      have hsz : w.heap.size + 1 < w1.heap.size := by have := hg.2.2; rw [alsz, alsz] at this; omega
      have hE : Ext w w1 := (((Ext.refl _).alloc _ _).alloc _ _).trans (ext_of_grown hg)
      go_wp2_with fail
      exact bodyPost_ret (v := kv (0, 5)) (by simp [results, Tryz.results141, go_sem, k0, k1]) rfl ⟨ret_kv H.out.symm, by repeat (first | exact hE | exact Ext.refl _ | refine Ext.alloc ?_ _ _ | refine Ext.setNew ?_ _ _ (by simp; try omega) _)⟩
    | true =>
      have hll : lgl ⟨1, a, b, col, ⟨k, n, s⟩⟩ pre.length = true := lgl_none (show ari 1 < 1 by decide)
      have H := Lib.hid (show chO ⟨1, a, b, col, ⟨k, n, s⟩⟩ pre cols = (k, 0) by unfold chO; rw [if_neg (by simp [hb, ari]), if_neg (by simp [hll]), if_neg (by simp [ari]), if_neg (by simp [ari]), if_neg (by simp)])
      rw [hb] at hV
      rw [hll] at hL
      have HV := Lib.hid hV
      have HL := Lib.hid hL
      clear hV hb hL hll
      go_enter Tryz.func141, Tryz.ntmps141
      go_wp2_with fail
      refine (HA.out _).mono ?_; rintro e w1 ⟨rfl, rfl⟩
      go_wp2_with fail
      refine (HV.out _).mono ?_; rintro e w1 ⟨rfl, hg⟩
      have k0 := box2r _ _ _ _ hg 0 (.int .i64 0) rfl
      have k1 := box2r _ _ _ _ hg 1 (.int .i64 0) rfl
      obtain ⟨gc, gf⟩ := gcell hg
      have hsz : w.heap.size + 1 < w1.heap.size := by have := hg.2.2; rw [alsz, alsz] at this; omega
      go_wp2_with fail
      refine (HL.out _).mono ?_; rintro e w2 ⟨rfl, hg'⟩
      have hG := grown_trans hg hg'
      have k0 := box2r _ _ _ _ hG 0 (.int .i64 0) rfl
      have k1 := box2r _ _ _ _ hG 1 (.int .i64 0) rfl
      obtain ⟨gc2, gf2⟩ := gcell hG
      have hsz2 : w.heap.size + 1 < w2.heap.size := by have := hG.2.2; rw [alsz, alsz] at this; omega
      have hE : Ext w w2 := (((Ext.refl _).alloc _ _).alloc _ _).trans (ext_of_grown hG)
      go_wp2_with fail
      refine (HA.out _).mono ?_; rintro e w3 ⟨rfl, rfl⟩
      go_wp2_with fail
      exact bodyPost_ret (v := kv (k, 0)) (by simp [results, Tryz.results141, go_sem, k0, k1]) rfl ⟨ret_kv H.out.symm, by repeat (first | exact hE | exact Ext.refl _ | refine Ext.alloc ?_ _ _ | refine Ext.setNew ?_ _ _ (by simp; try omega) _)⟩
  by_cases h2 : op = 2
  · subst h2
    have ha : ari 2 = 0 := by decide
    rw [ha] at hA
    have HA := Lib.hid hA
    have hll : lgl ⟨2, a, b, col, ⟨k, n, s⟩⟩ pre.length = true := lgl_none (show ari 2 < 1 by decide)
    rw [hll] at hL
    have HL := Lib.hid hL
    clear hA hv hV hu ha hL h1
    cases hb : isIx col cols.length with
    | false =>
      have H := Lib.hid (show chO ⟨2, a, b, col, ⟨k, n, s⟩⟩ pre cols = (0, 10) by unfold chO; rw [if_neg (by simp [ari]), if_pos (Or.inr ⟨rfl, hb⟩)])
      rw [hb] at hI
      have HI := Lib.hid hI
      clear hI hb hll
      go_enter Tryz.func141, Tryz.ntmps141
      go_wp2_with fail
      refine (HA.out _).mono ?_; rintro e w1 ⟨rfl, rfl⟩
      go_wp2_with fail
      refine (HL.out _).mono ?_; rintro e w1 ⟨rfl, hg⟩
      have k0 := box2r _ _ _ _ hg 0 (.int .i64 0) rfl
      have k1 := box2r _ _ _ _ hg 1 (.int .i64 0) rfl
      obtain ⟨gc, gf⟩ := gcell hg
      have hsz : w.heap.size + 1 < w1.heap.size := by have := hg.2.2; rw [alsz, alsz] at this; omega
      have hE : Ext w w1 := (((Ext.refl _).alloc _ _).alloc _ _).trans (ext_of_grown hg)
      go_wp2_with fail
      refine (HI.out _).mono ?_; rintro e w2 ⟨rfl, rfl⟩
      go_wp2_with fail
      exact bodyPost_ret (v := kv (0, 10)) (by simp [results, Tryz.results141, go_sem, k0, k1]) rfl ⟨ret_kv H.out.symm, by repeat (first | exact hE | exact Ext.refl _ | refine Ext.alloc ?_ _ _ | refine Ext.setNew ?_ _ _ (by simp; try omega) _)⟩
    | true =>
      have hx := (isIx_iff _ _).1 hb
      obtain ⟨j, rfl⟩ := nat_of hx.1
      have hj : j < cols.length := by omega
      have hll' := hll
      have H := Lib.hid (show chO ⟨2, a, b, j, ⟨k, n, s⟩⟩ pre cols = (cols[j], 0) by unfold chO; rw [if_neg (by simp [ari]), if_neg (by simp [hll', hb]), if_neg (by simp [ari]), if_neg (by simp [ari]), if_pos rfl, atI_at _ _ hj])
      rw [hb] at hI
      have HI := Lib.hid hI
      obtain ⟨g, o, rfl, c0⟩ := rd_I HC.out j hj
      generalize cols[j] = kc at *
      have hjl : (j : Int) < (cols.length : Int) := by omega
      clear hI hb hll hll' hx
      go_enter Tryz.func141, Tryz.ntmps141
      go_wp2_with fail
      refine (HA.out _).mono ?_; rintro e w1 ⟨rfl, rfl⟩
      go_wp2_with fail
      refine (HL.out _).mono ?_; rintro e w1 ⟨rfl, hg⟩
      have k0 := box2r _ _ _ _ hg 0 (.int .i64 0) rfl
      have k1 := box2r _ _ _ _ hg 1 (.int .i64 0) rfl
      obtain ⟨gc, gf⟩ := gcell hg
      have hsz : w.heap.size + 1 < w1.heap.size := by have := hg.2.2; rw [alsz, alsz] at this; omega
      have hE : Ext w w1 := (((Ext.refl _).alloc _ _).alloc _ _).trans (ext_of_grown hg)
      have c0' := hE.keeps c0
      go_wp2_with fail
      refine (HI.out _).mono ?_; rintro e w2 ⟨rfl, rfl⟩
      go_wp2_with fail
      refine (HA.out _).mono ?_; rintro e w3 ⟨rfl, rfl⟩
      go_wp2_with fail
      exact bodyPost_ret (v := kv (kc, 0)) (by simp [results, Tryz.results141, go_sem, k0, k1]) rfl ⟨ret_kv H.out.symm, by repeat (first | exact hE | exact Ext.refl _ | refine Ext.alloc ?_ _ _ | refine Ext.setNew ?_ _ _ (by simp; try omega) _)⟩
  have c1 : (op == 1) = false := by simpa using h1
  have c2 : (op == 2) = false := by simpa using h2
  have hr : ari op = 1 ∨ ari op = 2 := by
    rcases hv with h | h | h | h
    · exact absurd h hu
    · unfold ari at h; split at h
      · omega
      · split at h
        · omega
        · split at h <;> omega
    · exact Or.inl h
    · exact Or.inr h
  have hop2 : ari op = 2 → 3 ≤ op ∧ op ≤ 9 := by
    intro h; unfold ari at h; split at h
    · omega
    · split at h
      · omega
      · split at h
        · assumption
        · omega
  clear hV hI hv hu
  cases hb : lgl ⟨op, a, b, col, ⟨k, n, s⟩⟩ pre.length with
  | false =>
    have H := Lib.hid (show chO ⟨op, a, b, col, ⟨k, n, s⟩⟩ pre cols = (0, 10) by unfold chO; rw [if_neg (by simp only; omega), if_pos (Or.inl hb)])
    rw [hb] at hL
    have HL := Lib.hid hL
    generalize ari op = r at *
    have HA := Lib.hid hA
    have hrn : (r == -1) = false := by rcases hr with rfl | rfl <;> rfl
    clear hA hL hb hr h1 h2 hop2
    go_enter Tryz.func141, Tryz.ntmps141
    go_wp2_with fail
    refine (HA.out _).mono ?_; rintro e w1 ⟨rfl, rfl⟩
    go_wp2_with fail
    refine (HL.out _).mono ?_; rintro e w1 ⟨rfl, hg⟩
    have k0 := box2r _ _ _ _ hg 0 (.int .i64 0) rfl
    have k1 := box2r _ _ _ _ hg 1 (.int .i64 0) rfl
    obtain ⟨gc, gf⟩ := gcell hg
    have hsz : w.heap.size + 1 < w1.heap.size := by have := hg.2.2; rw [alsz, alsz] at this; omega
    have hE : Ext w w1 := (((Ext.refl _).alloc _ _).alloc _ _).trans (ext_of_grown hg)
    go_wp2_with fail
    exact bodyPost_ret (v := kv (0, 10)) (by simp [results, Tryz.results141, go_sem, k0, k1]) rfl ⟨ret_kv H.out.symm, by repeat (first | exact hE | exact Ext.refl _ | refine Ext.alloc ?_ _ _ | refine Ext.setNew ?_ _ _ (by simp; try omega) _)⟩
  | true =>
    rw [hb] at hL
    have HL := Lib.hid hL
    rcases hr with hr | hr
    · have hx := lgA_lt (lgl_one (x := ⟨op, a, b, col, ⟨k, n, s⟩⟩) hr ▸ hb)
      simp only at hx
      obtain ⟨j, rfl⟩ := nat_of hx.1
      have hj : j < pre.length := by omega
      have hU := un_prg op pre[j] (clean_at HCL.out j hj)
      have hH : chO ⟨op, j, b, col, ⟨k, n, s⟩⟩ pre cols = unO op pre[j] := by
        unfold chO; rw [if_neg (by simp only; omega), if_neg (by simp only [hb]; simp [h2]), if_pos hr, atK_at _ _ hj]
      generalize unO op pre[j] = pq at *
      obtain ⟨p, q⟩ := pq
      obtain ⟨g, o, rfl, c0, d0⟩ := rd_K HP.out j hj
      generalize pre[j] = ke at *
      obtain ⟨kk, ee⟩ := ke
      have H := Lib.hid hH
      have HU := Lib.hid hU
      rw [hr] at hA
      have HA := Lib.hid hA
      have hjl : (j : Int) < (pre.length : Int) := by omega
      clear hA hL hb hr hU hH hx hop2
      simp only at c0 d0
      go_enter Tryz.func141, Tryz.ntmps141
      go_wp2_with fail
      refine (HA.out _).mono ?_; rintro e w1 ⟨rfl, rfl⟩
      go_wp2_with fail
      refine (HL.out _).mono ?_; rintro e w1 ⟨rfl, hg⟩
      have k0 := box2r _ _ _ _ hg 0 (.int .i64 0) rfl
      have k1 := box2r _ _ _ _ hg 1 (.int .i64 0) rfl
      have kf0 := box2f _ _ _ _ hg 0
      have kf1 := box2f _ _ _ _ hg 1
      have K0 := Lib.hid (box2 _ _ _ _ hg 0 (.int .i64 op) rfl)
      have K1 := Lib.hid (box2 _ _ _ _ hg 1 (.int .i64 j) rfl)
      obtain ⟨gc, gf⟩ := gcell hg
      have hsz : w.heap.size + 1 < w1.heap.size := by have := hg.2.2; rw [alsz, alsz] at this; omega
      have hE : Ext w w1 := (((Ext.refl _).alloc _ _).alloc _ _).trans (ext_of_grown hg)
      have n0 : w.heap.size + 1 ≠ w.heap.size := by omega
      have n1 : w.heap.size + 1 ≠ g := by have := World.block_lt_of_cell? _ _ c0; simp only at this; omega
      have K2 := Lib.hid (hE.keeps c0)
      have K3 := Lib.hid (hE.keeps d0)
      go_wp2_with fail
      refine (HA.out _).mono ?_; rintro e w3 ⟨rfl, rfl⟩
      have Kk0 := Lib.hid k0
      have Kk1 := Lib.hid k1
      clear gc gf hg k0 k1
      go_wp2_with fail
      go_region_held3 (fun w' => w'.cell? ⟨w.heap.size, 0, none⟩ = some (.int .i64 op) ∧ w'.cell? ⟨w.heap.size, 1, none⟩ = some (.int .i64 j) ∧ w'.cell? ⟨g, o + j * 2, none⟩ = some (.int .i64 kk) ∧ w'.cell? ⟨g, o + j * 2 + 1, none⟩ = some (.int .i64 ee)) (first | exact ⟨K0.out, K1.out, K2.out, K3.out⟩ | exact ⟨f0, f1, f2, f3⟩ | exact ⟨set2far n0 f0, set2far n0 f1, set2far n1 f2, set2far n1 f3⟩ | go_keep)
        (first | (go_at_call 153; refine (heldE w1 (HU.out _) ?_).mono ?_; (first | assumption | exact Ext.refl _ | exact (Ext.refl _).drew); rintro e w3 ⟨rfl, -, qG⟩; have f0 := qG.keeps K0.out; have f1 := qG.keeps K1.out; have f2 := qG.keeps K2.out; have f3 := qG.keeps K3.out; have k0 := qG.keeps Kk0.out; have k1 := qG.keeps Kk1.out; have hs3 : w.heap.size + 1 < w3.heap.size := Nat.lt_of_lt_of_le hsz qG.2.2; have e0 := (qG.2.1 ⟨w.heap.size + 1, 0, none⟩ hsz).trans kf0; have e1 := (qG.2.1 ⟨w.heap.size + 1, 1, none⟩ hsz).trans kf1))
      go_wp2_with fail
      exact bodyPost_ret (v := kv (p, q)) (by simp [results, Tryz.results141, go_sem, k0, k1]) rfl ⟨ret_kv H.out.symm, by repeat (first | exact hE.trans qG | exact Ext.refl _ | refine Ext.alloc ?_ _ _ | refine Ext.setNew ?_ _ _ (by simp; try omega) _)⟩
    · have hlg := lgl_two (x := ⟨op, a, b, col, ⟨k, n, s⟩⟩) hr ▸ hb
      rw [Bool.and_eq_true] at hlg
      have hx := lgA_lt hlg.1
      have hy := lgB_lt hlg.2
      simp only at hx hy
      obtain ⟨j, rfl⟩ := nat_of hx.1
      obtain ⟨i, rfl⟩ := nat_of hy.1
      have hj : j < pre.length := by omega
      have hi : i < pre.length := by omega
      have hU := bi_prg op (hop2 hr) pre[j] pre[i] (clean_at HCL.out j hj) (clean_at HCL.out i hi)
      have hH : chO ⟨op, j, i, col, ⟨k, n, s⟩⟩ pre cols = biO op pre[j] pre[i] := by
        unfold chO; rw [if_neg (by simp only; omega), if_neg (by simp only [hb]; simp [h2]), if_neg (by simp only; omega), if_pos hr, atK_at _ _ hj, atK_at _ _ hi]
      generalize biO op pre[j] pre[i] = pq at *
      obtain ⟨p, q⟩ := pq
      obtain ⟨g, o, rfl, c0, d0⟩ := rd_K HP.out j hj
      obtain ⟨g2, o2, e2, c3, d3⟩ := rd_K HP.out i hi
      simp only [Option.some.injEq, Addr.mk.injEq, and_true] at e2
      obtain ⟨rfl, rfl⟩ := e2
      generalize pre[j] = ke at *
      generalize pre[i] = kf at *
      obtain ⟨kk, ee⟩ := ke
      obtain ⟨ll, ff⟩ := kf
      have H := Lib.hid hH
      have HU := Lib.hid hU
      rw [hr] at hA
      have HA := Lib.hid hA
      have hjl : (j : Int) < (pre.length : Int) := by omega
      have hil : (i : Int) < (pre.length : Int) := by omega
      clear hA hL hb hr hU hH hx hy hlg hop2
      simp only at c0 d0 c3 d3
      go_enter Tryz.func141, Tryz.ntmps141
      go_wp2_with fail
      refine (HA.out _).mono ?_; rintro e w1 ⟨rfl, rfl⟩
      go_wp2_with fail
      refine (HL.out _).mono ?_; rintro e w1 ⟨rfl, hg⟩
      have k0 := box2r _ _ _ _ hg 0 (.int .i64 0) rfl
      have k1 := box2r _ _ _ _ hg 1 (.int .i64 0) rfl
      have kf0 := box2f _ _ _ _ hg 0
      have kf1 := box2f _ _ _ _ hg 1
      have K0 := Lib.hid (box2 _ _ _ _ hg 0 (.int .i64 op) rfl)
      have K1 := Lib.hid (box2 _ _ _ _ hg 1 (.int .i64 j) rfl)
      have K4 := Lib.hid (box2 _ _ _ _ hg 2 (.int .i64 i) rfl)
      obtain ⟨gc, gf⟩ := gcell hg
      have hsz : w.heap.size + 1 < w1.heap.size := by have := hg.2.2; rw [alsz, alsz] at this; omega
      have hE : Ext w w1 := (((Ext.refl _).alloc _ _).alloc _ _).trans (ext_of_grown hg)
      have n0 : w.heap.size + 1 ≠ w.heap.size := by omega
      have n1 : w.heap.size + 1 ≠ g := by have := World.block_lt_of_cell? _ _ c0; simp only at this; omega
      have K2 := Lib.hid (hE.keeps c0)
      have K3 := Lib.hid (hE.keeps d0)
      have K5 := Lib.hid (hE.keeps c3)
      have K6 := Lib.hid (hE.keeps d3)
      go_wp2_with fail
      refine (HA.out _).mono ?_; rintro e w3 ⟨rfl, rfl⟩
      have Kk0 := Lib.hid k0
      have Kk1 := Lib.hid k1
      clear gc gf hg k0 k1
      go_wp2_with fail
      go_region_held3 (fun w' => w'.cell? ⟨w.heap.size, 0, none⟩ = some (.int .i64 op) ∧ w'.cell? ⟨w.heap.size, 1, none⟩ = some (.int .i64 j) ∧ w'.cell? ⟨g, o + j * 2, none⟩ = some (.int .i64 kk) ∧ w'.cell? ⟨g, o + j * 2 + 1, none⟩ = some (.int .i64 ee) ∧ w'.cell? ⟨w.heap.size, 2, none⟩ = some (.int .i64 i) ∧ w'.cell? ⟨g, o + i * 2, none⟩ = some (.int .i64 ll) ∧ w'.cell? ⟨g, o + i * 2 + 1, none⟩ = some (.int .i64 ff)) (first | exact ⟨K0.out, K1.out, K2.out, K3.out, K4.out, K5.out, K6.out⟩ | exact ⟨f0, f1, f2, f3, f4, f5, f6⟩ | exact ⟨set2far n0 f0, set2far n0 f1, set2far n1 f2, set2far n1 f3, set2far n0 f4, set2far n1 f5, set2far n1 f6⟩ | go_keep)
        (first | (go_at_call 154; refine (heldE w1 (HU.out _) ?_).mono ?_; (first | assumption | exact Ext.refl _ | exact (Ext.refl _).drew); rintro e w3 ⟨rfl, -, qG⟩; have f0 := qG.keeps K0.out; have f1 := qG.keeps K1.out; have f2 := qG.keeps K2.out; have f3 := qG.keeps K3.out; have f4 := qG.keeps K4.out; have f5 := qG.keeps K5.out; have f6 := qG.keeps K6.out; have k0 := qG.keeps Kk0.out; have k1 := qG.keeps Kk1.out; have hs3 : w.heap.size + 1 < w3.heap.size := Nat.lt_of_lt_of_le hsz qG.2.2; have e0 := (qG.2.1 ⟨w.heap.size + 1, 0, none⟩ hsz).trans kf0; have e1 := (qG.2.1 ⟨w.heap.size + 1, 1, none⟩ hsz).trans kf1))
      go_wp2_with fail
      exact bodyPost_ret (v := kv (p, q)) (by simp [results, Tryz.results141, go_sem, k0, k1]) rfl ⟨ret_kv H.out.symm, by repeat (first | exact hE.trans qG | exact Ext.refl _ | refine Ext.alloc ?_ _ _ | refine Ext.setNew ?_ _ _ (by simp; try omega) _)⟩
end Go.Proofs.YtbplapkcleipiaaGreatDoor
/- Check, of the program. -/
namespace Go.Proofs.YtbplapkcleipiaaGreatDoor
open Go.ChangeShapes Go.WideShapes Go.ChangeAt Go.RowKit

/-- a list that is filled up -/
def fil {α : Type} (a : List α) (n : Nat) (z : α) : List α := a ++ List.replicate (n - a.length) z
theorem fil_len {α : Type} (a : List α) (n : Nat) (z : α) (h : a.length ≤ n) : (fil a n z).length = n := by simp [fil]; omega
theorem fil_nil {α : Type} (n : Nat) (z : α) : fil [] n z = List.replicate n z := by simp [fil]
theorem fil_full {α : Type} (a : List α) (n : Nat) (z : α) (h : a.length = n) : fil a n z = a := by subst h; simp [fil]
theorem fil_take {α : Type} (a : List α) (n k : Nat) (z : α) (h : a.length = k) : (fil a n z).take k = a := by subst h; simp [fil]
theorem fil_set {α : Type} (a : List α) (n k : Nat) (z x : α) (hk : a.length = k) (h : k < n) : (fil a n z).set k x = fil (a ++ [x]) n z := by
  subst hk
  unfold fil
  obtain ⟨m, hm⟩ : ∃ m, n - a.length = m + 1 := ⟨n - a.length - 1, by omega⟩
  rw [hm, List.set_append_right _ _ (Nat.le_refl _), Nat.sub_self, List.replicate_succ, List.set_cons_zero, List.append_assoc, List.length_append, show n - (a.length + [x].length) = m by simp; omega]
  rfl
theorem ret_k2 {a b : Int} {p : Int × Int} (h : p = (a, b)) : Ending.returned (.tuple #[.int .i64 a, .int .i64 b]) = .returned (.tuple #[.int .i64 p.1, .int .i64 p.2]) := by rw [h]
theorem Arr.put2 {e : TypeId} {W w : World} {g : Nat} {l : List (Int × Int)} (h : Arr e W w g l) (i : Nat) (p q : Int) (hi : i < l.length) : Arr e W ((w.setCell ⟨g, i * 2, none⟩ (.int .i64 p)).setCell ⟨g, i * 2 + 1, none⟩ (.int .i64 q)) g (l.set i (p, q)) := (h.put i (p, q) hi).1
theorem Arr.rdTake {α : Type} [Enc α] {e : TypeId} {W w : World} {g n k : Nat} {a : List α} {z : α} (h : Arr e W w g (fil a n z)) (hk : a.length = k) (hn : k ≤ n) : RdG w (.slice (some ⟨g, 0, none⟩) k n) a := by
  have h1 := h.rd.take k (by rw [fil_len _ _ _ (by omega)]; exact hn)
  rw [fil_take a n k z hk] at h1
  rw [fil_len _ _ _ (by omega)] at h1
  exact h1
theorem fil_at {α : Type} (a : List α) (n k : Nat) (z : α) (hk : a.length = k) (h : k < n) (h' : k < (fil a n z).length) : (fil a n z)[k] = z := by
  subst hk; simp [fil]
theorem Arr.z2 {e : TypeId} {W w : World} {g n k : Nat} {a : List (Int × Int)} (h : Arr e W w g (fil a n (0, 0))) (hk : a.length = k) (hn : k < n) : w.cell? ⟨g, k * 2, none⟩ = some (.int .i64 0) ∧ w.cell? ⟨g, k * 2 + 1, none⟩ = some (.int .i64 0) := by
  have hl : k < (fil a n ((0 : Int), (0 : Int))).length := by rw [fil_len _ _ _ (by omega)]; exact hn
  have e := fil_at a n k (0, 0) hk hn hl
  exact ⟨h.cell k 0 _ hl (by rw [e]; rfl), h.cell k 1 _ hl (by rw [e]; rfl)⟩
def CkR (w : World) (l : List X) (cols : List Int) (r : Nat) (i : Value) (wr : World) : Prop := ∃ k : Nat, k ≤ r + 1 ∧ i = .int .i64 k ∧ Arr tK.e w wr w.heap.size (fil (chs cols (l.take k)) (r + 1) (0, 0))
theorem chs_tlen (cols : List Int) (l : List X) (k : Nat) (h : k ≤ l.length) : (chs cols (l.take k)).length = k := by rw [chs_len, List.length_take]; omega
set_option maxHeartbeats 4000000 in
set_option maxRecDepth 100000 in
theorem check_prg (l : List X) (root : Int) (cols : List Int) (vl vc : Value) (w : World) (hl : RdG w vl l) (hc : RdG w vc cols) :
    Calls Tryz.prog 124 #[vl, .int .i64 root, vc] w fun e w' => e = .returned (.tuple #[.int .i64 (chkV l root cols).1, .int .i64 (chkV l root cols).2]) ∧ Ext w w' := by
  obtain ⟨al, cl, rfl, ll1, ll2⟩ := hl.shape
  obtain ⟨ac, cc, rfl, lc1, lc2⟩ := hc.shape
  have HL := Lib.hid hl
  have HC := Lib.hid hc
  clear hl hc
  unfold maxLen at ll2 lc2
  have hI := isx_prg root l.length
  by_cases hlen : 200 < l.length
  · have H := Lib.hid (show chkV l root cols = (0, 4) by unfold chkV; rw [if_pos hlen])
    have hlen' : (200 : Int) < (l.length : Int) := by omega
    clear hI
    go_enter Tryz.func124, Tryz.ntmps124
    go_wp2_with fail
    go_ret2
    exact ⟨ret_k2 H.out, Ext.refl _⟩
  have hlen' : ¬ (200 : Int) < (l.length : Int) := by omega
  cases hb : isIx root l.length with
  | false =>
    have H := Lib.hid (show chkV l root cols = (0, 10) by unfold chkV; rw [if_neg hlen, if_pos hb])
    rw [hb] at hI
    have HI := Lib.hid hI
    clear hI hb
    go_enter Tryz.func124, Tryz.ntmps124
    go_wp2_with fail
    refine (HI.out _).mono ?_; rintro e w1 ⟨rfl, rfl⟩
    go_wp2_with fail
    go_ret2
    exact ⟨ret_k2 H.out, Ext.refl _⟩
  | true =>
    have hx := (isIx_iff _ _).1 hb
    obtain ⟨r, rfl⟩ := nat_of hx.1
    have hr : r < l.length := by omega
    have H := Lib.hid (show chkV l r cols = (chs cols (l.take (r + 1))).getD r (0, 0) by unfold chkV; rw [if_neg hlen, if_neg (by rw [hb]; decide), chs_take cols l (r + 1) r (by omega) (by omega)]; rfl)
    rw [hb] at hI
    have HI := Lib.hid hI
    clear hI hb hx
    obtain ⟨n, hn⟩ : ∃ n, n = l.length := ⟨_, rfl⟩
    obtain ⟨m, hm⟩ : ∃ m, m = cols.length := ⟨_, rfl⟩
    have HN := Lib.hid hn
    have HM := Lib.hid hm
    rw [← hn] at HL HI ll1 hlen hlen' hr ⊢
    rw [← hm] at HC lc1 ⊢
    clear hn hm
    have e1 : (0 : Int) ≤ (r : Int) + 1 := by omega
    have e2 : (r : Int) + 1 ≤ (cl : Int) := by omega
    go_enter Tryz.func124, Tryz.ntmps124
    go_wp2_with fail
    refine (HI.out _).mono ?_; rintro e w1 ⟨rfl, rfl⟩
    go_wp2_with (at_make; refine makeG tK rfl _ _ rfl w (Ext.refl _) ((r : Int) + 1) ((r : Int) + 1) (r + 1) rfl rfl (by omega) (by omega) (by omega) ?_; intro w1 hA hE1)
    have hB : w.heap.size < w1.heap.size := hA.lo.2
    go_loopw [27] (CkR w l cols r) (fun i _ => r + 1 - (intOf i).toNat)
    case atStart => exact ⟨0, by omega, rfl, by rw [List.take_zero]; show Arr tK.e w w1 w.heap.size (fil [] (r + 1) (0, 0)); rw [fil_nil]; exact hA⟩
    case round =>
      obtain ⟨k, hk, rfl, hAr⟩ := hrel
      have hrn : r < l.length := by rw [← HN.out]; exact hr
      by_cases hlt : k < r + 1
      · have hkl : k < l.length := by omega
        have hi1 : (k : Int) < (r : Int) + 1 := by omega
        have hi0 : (0 : Int) ≤ (k : Int) := by omega
        have hi2 : (k : Int) ≤ (r : Int) + 1 := by omega
        have hi3 : (k : Int) ≤ ((r + 1 : Nat) : Int) := by omega
        have hi4 : (k : Int) < ((r + 1 : Nat) : Int) := by omega
        obtain ⟨g, o, rfl, c0, c1, c2, c3, c4, c5, c6⟩ := rd_X HL.out k hkl
        have hgl : g < w.heap.size := World.block_lt_of_cell? _ _ c0
        have hS := Lib.hid (chs_succ cols l k hkl)
        have hpl := chs_tlen cols l k (by omega)
        have hP := hAr.rdTake hpl (by omega)
        have hCl := Lib.hid (chs_clean cols (l.take k))
        have hO := Lib.hid (one_prg l[k] (chs cols (l.take k)) cols)
        generalize hpr : chO l[k] (chs cols (l.take k)) cols = pq at *
        obtain ⟨p, q⟩ := pq
        have HPR := Lib.hid hpr
        clear hpr
        generalize l[k] = x at *
        obtain ⟨xop, xa, xb, xc, ⟨xk, xn, xs⟩⟩ := x
        simp only at c0 c1 c2 c3 c4 c5 c6
        have C0 := hAr.2.keeps c0
        have C1 := hAr.2.keeps c1
        have C2 := hAr.2.keeps c2
        have C3 := hAr.2.keeps c3
        have C4 := hAr.2.keeps c4
        have C5 := hAr.2.keeps c5
        have C6 := hAr.2.keeps c6
        clear c0 c1 c2 c3 c4 c5 c6
        go_wp2_with fail
        have hE0 : Ext wr (wr.alloc (.cells #[.int .i64 xop, .int .i64 xa, .int .i64 xb, .int .i64 xc, .int .i64 xk, .int .i64 xn, sv xs] 64)) := (Ext.refl _).alloc _ _
        have b0 := al_c wr #[.int .i64 xop, .int .i64 xa, .int .i64 xb, .int .i64 xc, .int .i64 xk, .int .i64 xn, sv xs] 64 0 (.int .i64 xop) rfl
        have b1 := al_c wr #[.int .i64 xop, .int .i64 xa, .int .i64 xb, .int .i64 xc, .int .i64 xk, .int .i64 xn, sv xs] 64 1 (.int .i64 xa) rfl
        have b2 := al_c wr #[.int .i64 xop, .int .i64 xa, .int .i64 xb, .int .i64 xc, .int .i64 xk, .int .i64 xn, sv xs] 64 2 (.int .i64 xb) rfl
        have b3 := al_c wr #[.int .i64 xop, .int .i64 xa, .int .i64 xb, .int .i64 xc, .int .i64 xk, .int .i64 xn, sv xs] 64 3 (.int .i64 xc) rfl
        have b4 := al_c wr #[.int .i64 xop, .int .i64 xa, .int .i64 xb, .int .i64 xc, .int .i64 xk, .int .i64 xn, sv xs] 64 4 (.int .i64 xk) rfl
        have b5 := al_c wr #[.int .i64 xop, .int .i64 xa, .int .i64 xb, .int .i64 xc, .int .i64 xk, .int .i64 xn, sv xs] 64 5 (.int .i64 xn) rfl
        have b6 := al_c wr #[.int .i64 xop, .int .i64 xa, .int .i64 xb, .int .i64 xc, .int .i64 xk, .int .i64 xn, sv xs] 64 6 (sv xs) rfl
        generalize wr.alloc (.cells #[.int .i64 xop, .int .i64 xa, .int .i64 xb, .int .i64 xc, .int .i64 xk, .int .i64 xn, sv xs] 64) = W0 at hE0 b0 b1 b2 b3 b4 b5 b6 ⊢
        have B0 := Lib.hid b0
        have B1 := Lib.hid b1
        have B2 := Lib.hid b2
        have B3 := Lib.hid b3
        have B4 := Lib.hid b4
        have B5 := Lib.hid b5
        have B6 := Lib.hid b6
        have n0 : w.heap.size ≠ wr.heap.size := by have := hAr.lo.2; omega
        have hA0 := hAr.ext hE0
        have hP0 := hP.ext hE0
        have hC0 := HC.out.ext hA0.2
        have hbl : wr.heap.size < W0.heap.size := World.block_lt_of_cell? _ _ b0
        have hHA := Lib.hid hA0
        have HP0 := Lib.hid hP0
        have HC0 := Lib.hid hC0
        have hHE := Lib.hid hE0
        clear hP hP0 hC0 hE0 b0 b1 b2 b3 b4 b5 b6 hA0 C0 C1 C2 C3 C4 C5 C6
        go_region_held3 (fun w' => w'.cell? ⟨wr.heap.size, 0, none⟩ = some (.int .i64 xop) ∧ w'.cell? ⟨wr.heap.size, 1, none⟩ = some (.int .i64 xa) ∧ w'.cell? ⟨wr.heap.size, 2, none⟩ = some (.int .i64 xb) ∧ w'.cell? ⟨wr.heap.size, 3, none⟩ = some (.int .i64 xc) ∧ w'.cell? ⟨wr.heap.size, 4, none⟩ = some (.int .i64 xk) ∧ w'.cell? ⟨wr.heap.size, 5, none⟩ = some (.int .i64 xn) ∧ w'.cell? ⟨wr.heap.size, 6, none⟩ = some (sv xs)) (first | exact ⟨B0.out, B1.out, B2.out, B3.out, B4.out, B5.out, B6.out⟩ | exact ⟨f0, f1, f2, f3, f4, f5, f6⟩ | exact ⟨set2far n0 f0, set2far n0 f1, set2far n0 f2, set2far n0 f3, set2far n0 f4, set2far n0 f5, set2far n0 f6⟩ | go_keep)
          (first | (go_at_call 141; refine (heldE W0 (hO.out _ _ _ (HP0.out.ext ?_) (HC0.out.ext ?_) hCl.out) ?_).mono ?_; (first | assumption | exact Ext.refl _ | exact (Ext.refl _).drew); (first | assumption | exact Ext.refl _ | exact (Ext.refl _).drew); (first | assumption | exact Ext.refl _ | exact (Ext.refl _).drew); rintro e w3 ⟨rfl, -, qG⟩; have f0 := qG.keeps B0.out; have f1 := qG.keeps B1.out; have f2 := qG.keeps B2.out; have f3 := qG.keeps B3.out; have f4 := qG.keeps B4.out; have f5 := qG.keeps B5.out; have f6 := qG.keeps B6.out; have hA3 := hHA.out.ext qG; obtain ⟨z0, z1⟩ := hA3.z2 hpl hlt; have y0 := hA3.frozen (k * 2); have y1 := hA3.frozen (k * 2 + 1); have hs3 := hA3.lo.2))
        have hA4 := hA3.put2 k p q (by rw [fil_len _ _ _ (by omega)]; omega)
        rw [fil_set _ _ _ _ _ hpl hlt, ← hS.out] at hA4
        go_wp2_with fail
        go_roundw
        case rel => exact ⟨k + 1, by omega, by go_num, hA4⟩
        case measure => simp [intOf]; omega
      · have hke : k = r + 1 := by omega
        subst hke
        have hpl := chs_tlen cols l (r + 1) (by omega)
        rw [fil_full _ _ _ hpl] at hAr
        have hrl : r < (chs cols (l.take (r + 1))).length := by rw [hpl]; omega
        have c0 := hAr.cell r 0 _ hrl rfl
        have c1 := hAr.cell r 1 _ hrl rfl
        have H2 := Lib.hid (H.out.trans (getD_at _ _ r hrl))
        generalize (chs cols (l.take (r + 1)))[r] = pq at *
        obtain ⟨p, q⟩ := pq
        have D0 : wr.cell? ⟨w.heap.size, r * 2, none⟩ = some (.int .i64 p) := c0
        have D1 : wr.cell? ⟨w.heap.size, r * 2 + 1, none⟩ = some (.int .i64 q) := c1
        have hE := hAr.2
        have hi0 : (0 : Int) ≤ (r : Int) := by omega
        have hi1 : (r : Int) < (r : Int) + 1 := by omega
        have hi4 : (r : Int) < ((r + 1 : Nat) : Int) := by omega
        have hend : decide (((r + 1 : Nat) : Int) < (r : Int) + 1) = false := by simp
        clear c0 c1
        go_wp2_with fail
        go_quiet (fail)
        go_wp2_with fail
        go_ret2
        exact ⟨ret_k2 H2.out, hE⟩
end Go.Proofs.YtbplapkcleipiaaGreatDoor
