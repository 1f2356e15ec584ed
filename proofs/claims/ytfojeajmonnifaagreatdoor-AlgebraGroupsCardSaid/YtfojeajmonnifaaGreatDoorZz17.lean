/- Comparisons, conjunctions, arithmetic of the program. -/
import Derived.Test.YtfojeajmonnifaaGreatDoorZz09
import Derived.Test.YtfojeajmonnifaaGreatDoorZz16
namespace Go.Proofs.YtfojeajmonnifaaGreatDoor
open Go.ChangeShapes Go.WideShapes Go.ChangeAt Go.RowKit

theorem gro2 {w w1 : World} (c d : Array Value) (t u : TypeId) (hg : Grown ((w.alloc (.cells c t)).alloc (.cells d u)) w1) : (∀ b o, b < w.heap.size + 2 → w1.cell? ⟨b, o, none⟩ = ((w.alloc (.cells c t)).alloc (.cells d u)).cell? ⟨b, o, none⟩) ∧ w.heap.size < w1.heap.size ∧ w.heap.size + 1 < w1.heap.size ∧ Grown w w1 := by
  have h := hg.2.2
  rw [alsz, alsz] at h
  exact ⟨fun b o hb => (gcell hg).1 b o (by rw [alsz, alsz]; omega), by omega, by omega, grown_trans (((Grown.refl _).alloc _ _).alloc _ _) hg⟩
set_option maxHeartbeats 2000000 in
theorem dec_6 (a b : V) (w : World) : Calls Tryz.prog 205 #[.int .i64 6, vv a, vv b] w fun e w' => e = .returned (.bool (decB 6 a b)) ∧ Grown w w' := by
  have hc := cmp_val a b
  have hd : decB 6 a b = decide (a.k ≠ 0 ∧ cmpV a b = 0) := by simp [decB, eqB]
  obtain ⟨k, n, s⟩ := a
  obtain ⟨k2, n2, s2⟩ := b
  simp only at hd
  generalize cmpV ⟨k, n, s⟩ ⟨k2, n2, s2⟩ = c at *
  have HC := Lib.hid hc
  clear hc
  by_cases h : k = 0
  · have H := Lib.hid (hd.trans (by simp [h]) : decB 6 ⟨k, n, s⟩ ⟨k2, n2, s2⟩ = false)
    subst h
    clear hd
    go_enter Tryz.func205, Tryz.ntmps205
    go_wp2_with fail
    go_ret
    exact ⟨ret_bool H.out.symm, ((Grown.refl _).alloc _ _).alloc _ _⟩
  · have H := Lib.hid (hd.trans (by simp [h]) : decB 6 ⟨k, n, s⟩ ⟨k2, n2, s2⟩ = decide (c = 0))
    clear hd
    go_enter Tryz.func205, Tryz.ntmps205
    go_wp2_with fail
    refine (HC.out _).mono ?_; rintro e w1 ⟨rfl, hg⟩
    go_wp2_with fail
    go_ret
    exact ⟨ret_bool (by rw [H.out]; cases hq : (k != 0) with | true => rfl | false => exact absurd (by simpa using hq) h), (gro2 _ _ _ _ hg).2.2.2⟩
set_option maxHeartbeats 2000000 in
theorem dec_7 (a b : V) (w : World) : Calls Tryz.prog 205 #[.int .i64 7, vv a, vv b] w fun e w' => e = .returned (.bool (decB 7 a b)) ∧ Grown w w' := by
  have hc := cmp_val a b
  have hd : decB 7 a b = decide (a.k = b.k ∧ a.k ≠ 0 ∧ cmpV a b < 0) := by simp [decB, leB]
  obtain ⟨k, n, s⟩ := a
  obtain ⟨k2, n2, s2⟩ := b
  simp only at hd
  generalize cmpV ⟨k, n, s⟩ ⟨k2, n2, s2⟩ = c at *
  have HC := Lib.hid hc
  clear hc
  by_cases h : k = k2
  · subst h
    by_cases h : k = 0
    · have H := Lib.hid (hd.trans (by simp [h]) : decB 7 ⟨k, n, s⟩ ⟨k, n2, s2⟩ = false)
      subst h
      clear hd
      go_enter Tryz.func205, Tryz.ntmps205
      go_wp2_with fail
      go_ret
      exact ⟨ret_bool H.out.symm, ((Grown.refl _).alloc _ _).alloc _ _⟩
    · have H := Lib.hid (hd.trans (by simp [h]) : decB 7 ⟨k, n, s⟩ ⟨k, n2, s2⟩ = decide (c < 0))
      clear hd
      go_enter Tryz.func205, Tryz.ntmps205
      go_wp2_with fail
      refine (HC.out _).mono ?_; rintro e w1 ⟨rfl, hg⟩
      go_wp2_with fail
      go_ret
      exact ⟨ret_bool (by rw [H.out]; simp [h]), (gro2 _ _ _ _ hg).2.2.2⟩
  · have H := Lib.hid (hd.trans (by simp [h]) : decB 7 ⟨k, n, s⟩ ⟨k2, n2, s2⟩ = false)
    have h' : (k == k2) = false := by simpa using h
    clear hd
    go_enter Tryz.func205, Tryz.ntmps205
    go_wp2_with fail
    go_ret
    exact ⟨ret_bool H.out.symm, ((Grown.refl _).alloc _ _).alloc _ _⟩
set_option maxHeartbeats 2000000 in
theorem dec_8 (a b : V) (w : World) : Calls Tryz.prog 205 #[.int .i64 8, vv a, vv b] w fun e w' => e = .returned (.bool (decB 8 a b)) ∧ Grown w w' := by
  have ha := tru_prg a
  have hb := tru_prg b
  have hd : decB 8 a b = (truB a && truB b) := by simp [decB]
  obtain ⟨k, n, s⟩ := a
  obtain ⟨k2, n2, s2⟩ := b
  cases h : truB ⟨k, n, s⟩ with
  | false =>
    rw [h] at ha hd
    have HA := Lib.hid ha
    have H := Lib.hid hd
    clear ha hb hd h
    go_enter Tryz.func205, Tryz.ntmps205
    go_wp2_with fail
    refine (HA.out _).mono ?_; rintro e w1 ⟨rfl, hg⟩
    go_wp2_with fail
    go_ret
    exact ⟨ret_bool (by rw [H.out]; rfl), (gro2 _ _ _ _ hg).2.2.2⟩
  | true =>
    rw [h] at ha hd
    have HA := Lib.hid ha
    have HB := Lib.hid hb
    have H := Lib.hid hd
    clear ha hb hd h
    go_enter Tryz.func205, Tryz.ntmps205
    go_wp2_with fail
    refine (HA.out _).mono ?_; rintro e w1 ⟨rfl, hg⟩
    obtain ⟨gc, gs, gs', gg⟩ := gro2 _ _ _ _ hg
    have b0 : w.heap.size + 1 < w.heap.size + 2 := by omega
    go_wp2_with fail
    refine (HB.out _).mono ?_; rintro e w2 ⟨rfl, hg2⟩
    go_wp2_with fail
    go_ret
    exact ⟨ret_bool (by rw [H.out]; rfl), grown_trans gg hg2⟩
set_option maxHeartbeats 2000000 in
theorem dec_9 (a b : V) (w : World) : Calls Tryz.prog 205 #[.int .i64 9, vv a, vv b] w fun e w' => e = .returned (.bool (decB 9 a b)) ∧ Grown w w' := by
  have ha := tru_prg a
  have hb := tru_prg b
  have hd : decB 9 a b = (truB a || truB b) := by simp [decB]
  obtain ⟨k, n, s⟩ := a
  obtain ⟨k2, n2, s2⟩ := b
  cases h : truB ⟨k, n, s⟩ with
  | true =>
    rw [h] at ha hd
    have HA := Lib.hid ha
    have H := Lib.hid hd
    clear ha hb hd h
    go_enter Tryz.func205, Tryz.ntmps205
    go_wp2_with fail
    refine (HA.out _).mono ?_; rintro e w1 ⟨rfl, hg⟩
    go_wp2_with fail
    go_ret
    exact ⟨ret_bool (by rw [H.out]; rfl), (gro2 _ _ _ _ hg).2.2.2⟩
  | false =>
    rw [h] at ha hd
    have HA := Lib.hid ha
    have HB := Lib.hid hb
    have H := Lib.hid hd
    clear ha hb hd h
    go_enter Tryz.func205, Tryz.ntmps205
    go_wp2_with fail
    refine (HA.out _).mono ?_; rintro e w1 ⟨rfl, hg⟩
    obtain ⟨gc, gs, gs', gg⟩ := gro2 _ _ _ _ hg
    have b0 : w.heap.size + 1 < w.heap.size + 2 := by omega
    go_wp2_with fail
    refine (HB.out _).mono ?_; rintro e w2 ⟨rfl, hg2⟩
    go_wp2_with fail
    go_ret
    exact ⟨ret_bool (by rw [H.out]; rfl), grown_trans gg hg2⟩
theorem dec_prg (op : Int) (ho : 6 ≤ op ∧ op ≤ 9) (a b : V) (w : World) : Calls Tryz.prog 205 #[.int .i64 op, vv a, vv b] w fun e w' => e = .returned (.bool (decB op a b)) ∧ Grown w w' := by
  rcases (show op = 6 ∨ op = 7 ∨ op = 8 ∨ op = 9 by omega) with rfl | rfl | rfl | rfl
  · exact dec_6 a b w
  · exact dec_7 a b w
  · exact dec_8 a b w
  · exact dec_9 a b w
set_option maxHeartbeats 4000000 in
theorem cal_prg (op : Int) (ho : 3 ≤ op ∧ op ≤ 5) (a b : V) (ha : okN a.n) (hb : okN b.n) (w : World) : Calls Tryz.prog 204 #[.int .i64 op, vv a, vv b] w fun e w' => e = .returned (vv (calV op a b)) ∧ Ext w w' := by
  have h3 := add_prg a.n b.n ha hb
  have h4 := sub_prg a.n b.n ha hb
  have h5 := mul_prg a.n b.n ha hb
  obtain ⟨k, n, s⟩ := a
  obtain ⟨k2, n2, s2⟩ := b
  simp only at h3 h4 h5
  clear ha hb
  by_cases h1 : k = 1
  case neg =>
    have H := Lib.hid (show calV op ⟨k, n, s⟩ ⟨k2, n2, s2⟩ = ⟨0, 0, []⟩ by unfold calV; rw [if_neg (fun e => h1 e.1)]; rfl)
    clear h3 h4 h5 ho
    go_enter Tryz.func204, Tryz.ntmps204
    go_wp2_with fail
    exact bodyPost_ret (v := vv ⟨0, 0, []⟩) (by simp [results, Tryz.results204, go_sem]) rfl ⟨ret_vv H.out.symm, by repeat (first | exact Ext.refl _ | refine Ext.alloc ?_ _ _ | refine Ext.setNew ?_ _ _ (by simp; try omega) _)⟩
  subst h1
  by_cases h2 : k2 = 1
  case neg =>
    have H := Lib.hid (show calV op ⟨1, n, s⟩ ⟨k2, n2, s2⟩ = ⟨0, 0, []⟩ by unfold calV; rw [if_neg (fun e => h2 e.2)]; rfl)
    clear h3 h4 h5 ho
    go_enter Tryz.func204, Tryz.ntmps204
    go_wp2_with fail
    exact bodyPost_ret (v := vv ⟨0, 0, []⟩) (by simp [results, Tryz.results204, go_sem]) rfl ⟨ret_vv H.out.symm, by repeat (first | exact Ext.refl _ | refine Ext.alloc ?_ _ _ | refine Ext.setNew ?_ _ _ (by simp; try omega) _)⟩
  subst h2
  have hcal : calV op ⟨1, n, s⟩ ⟨1, n2, s2⟩ = numV (resV op n n2) := by unfold calV; rw [if_pos ⟨rfl, rfl⟩]
  have hf : ∀ z : Int, fitB z = true → numV z = ⟨1, wrap64 z, []⟩ := fun z h => by unfold numV; rw [if_pos h, wrap_fit z h]
  have hg : ∀ z : Int, fitB z = false → numV z = ⟨0, 0, []⟩ := fun z h => by unfold numV; rw [if_neg (by rw [h]; decide)]; rfl
  rcases (show op = 3 ∨ op = 4 ∨ op = 5 by omega) with rfl | rfl | rfl
  · rw [show resV 3 n n2 = n + n2 from rfl] at hcal
    cases hz : fitB (n + n2) with
    | true =>
      have H := Lib.hid (hcal.trans (hf _ hz))
      rw [hz] at h3
      generalize wrap64 (n + n2) = z at *
      have HC := Lib.hid h3
      clear h3 h4 h5 ho hcal hf hg hz
      go_enter Tryz.func204, Tryz.ntmps204
      go_wp2_with fail
      refine (HC.out _).mono ?_; rintro e w1 ⟨rfl, rfl⟩
      go_wp2_with fail
      exact bodyPost_ret (v := vv ⟨1, z, []⟩) (by simp [results, Tryz.results204, go_sem]) rfl ⟨ret_vv H.out.symm, by repeat (first | exact Ext.refl _ | refine Ext.alloc ?_ _ _ | refine Ext.setNew ?_ _ _ (by simp; try omega) _)⟩
    | false =>
      have H := Lib.hid (hcal.trans (hg _ hz))
      rw [hz] at h3
      generalize wrap64 (n + n2) = z at *
      have HC := Lib.hid h3
      clear h3 h4 h5 ho hcal hf hg hz
      go_enter Tryz.func204, Tryz.ntmps204
      go_wp2_with fail
      refine (HC.out _).mono ?_; rintro e w1 ⟨rfl, rfl⟩
      go_wp2_with fail
      exact bodyPost_ret (v := vv ⟨0, 0, []⟩) (by simp [results, Tryz.results204, go_sem]) rfl ⟨ret_vv H.out.symm, by repeat (first | exact Ext.refl _ | refine Ext.alloc ?_ _ _ | refine Ext.setNew ?_ _ _ (by simp; try omega) _)⟩
  · rw [show resV 4 n n2 = n - n2 from rfl] at hcal
    cases hz : fitB (n - n2) with
    | true =>
      have H := Lib.hid (hcal.trans (hf _ hz))
      rw [hz] at h4
      generalize wrap64 (n - n2) = z at *
      have HC := Lib.hid h4
      clear h3 h4 h5 ho hcal hf hg hz
      go_enter Tryz.func204, Tryz.ntmps204
      go_wp2_with fail
      refine (HC.out _).mono ?_; rintro e w1 ⟨rfl, rfl⟩
      go_wp2_with fail
      exact bodyPost_ret (v := vv ⟨1, z, []⟩) (by simp [results, Tryz.results204, go_sem]) rfl ⟨ret_vv H.out.symm, by repeat (first | exact Ext.refl _ | refine Ext.alloc ?_ _ _ | refine Ext.setNew ?_ _ _ (by simp; try omega) _)⟩
    | false =>
      have H := Lib.hid (hcal.trans (hg _ hz))
      rw [hz] at h4
      generalize wrap64 (n - n2) = z at *
      have HC := Lib.hid h4
      clear h3 h4 h5 ho hcal hf hg hz
      go_enter Tryz.func204, Tryz.ntmps204
      go_wp2_with fail
      refine (HC.out _).mono ?_; rintro e w1 ⟨rfl, rfl⟩
      go_wp2_with fail
      exact bodyPost_ret (v := vv ⟨0, 0, []⟩) (by simp [results, Tryz.results204, go_sem]) rfl ⟨ret_vv H.out.symm, by repeat (first | exact Ext.refl _ | refine Ext.alloc ?_ _ _ | refine Ext.setNew ?_ _ _ (by simp; try omega) _)⟩
  · rw [show resV 5 n n2 = n * n2 from rfl] at hcal
    cases hz : fitB (n * n2) with
    | true =>
      have H := Lib.hid (hcal.trans (hf _ hz))
      rw [hz] at h5
      generalize wrap64 (n * n2) = z at *
      have HC := Lib.hid h5
      clear h3 h4 h5 ho hcal hf hg hz
      go_enter Tryz.func204, Tryz.ntmps204
      go_wp2_with fail
      refine (HC.out _).mono ?_; rintro e w1 ⟨rfl, rfl⟩
      go_wp2_with fail
      exact bodyPost_ret (v := vv ⟨1, z, []⟩) (by simp [results, Tryz.results204, go_sem]) rfl ⟨ret_vv H.out.symm, by repeat (first | exact Ext.refl _ | refine Ext.alloc ?_ _ _ | refine Ext.setNew ?_ _ _ (by simp; try omega) _)⟩
    | false =>
      have H := Lib.hid (hcal.trans (hg _ hz))
      rw [hz] at h5
      generalize wrap64 (n * n2) = z at *
      have HC := Lib.hid h5
      clear h3 h4 h5 ho hcal hf hg hz
      go_enter Tryz.func204, Tryz.ntmps204
      go_wp2_with fail
      refine (HC.out _).mono ?_; rintro e w1 ⟨rfl, rfl⟩
      go_wp2_with fail
      exact bodyPost_ret (v := vv ⟨0, 0, []⟩) (by simp [results, Tryz.results204, go_sem]) rfl ⟨ret_vv H.out.symm, by repeat (first | exact Ext.refl _ | refine Ext.alloc ?_ _ _ | refine Ext.setNew ?_ _ _ (by simp; try omega) _)⟩
end Go.Proofs.YtfojeajmonnifaaGreatDoor
/- The value of one expression, of the program. -/
namespace Go.Proofs.YtfojeajmonnifaaGreatDoor
open Go.ChangeShapes Go.WideShapes Go.ChangeAt Go.RowKit

theorem set3far {X : World} {b c o p q r : Nat} {u x y z : Value} (hne : b ≠ c) (h : X.cell? ⟨c, o, none⟩ = some u) : (((X.setCell ⟨b, p, none⟩ x).setCell ⟨b, q, none⟩ y).setCell ⟨b, r, none⟩ z).cell? ⟨c, o, none⟩ = some u := by
  rw [World.cell?_setCell_far _ _ _ _ hne, World.cell?_setCell_far _ _ _ _ hne, World.cell?_setCell_far _ _ _ _ hne]; exact h
theorem gE2 {N : Nat} {args : Array Value} {w : World} {R : Ending} (h : Calls Tryz.prog N args w fun e w' => e = R ∧ Grown w w') : Calls Tryz.prog N args w fun e w' => e = R ∧ Ext w w' := h.mono fun _ _ ⟨a, b⟩ => ⟨a, ext_of_grown b⟩
set_option maxHeartbeats 8000000 in
theorem evo_no (x : X) (pre row : List V) (vp vr : Value) (w : World) (hp : RdG w vp pre) (hr : RdG w vr row) (hop : ∀ v ∈ pre, okN v.n) (hb : lgl x pre.length = false) : Calls Tryz.prog 188 #[xv x, vp, vr] w fun e w' => e = .returned (vv (evO x pre row)) ∧ Ext w w' := by
  obtain ⟨ap, cp, rfl, lp1, lp2⟩ := hp.shape
  obtain ⟨ac, cc, rfl, lc1, lc2⟩ := hr.shape
  have hL := lgl_prg x pre.length
  have HP := Lib.hid hp
  have HR := Lib.hid hr
  have HO := Lib.hid hop
  clear hp hr hop
  unfold maxLen at lp2 lc2
  obtain ⟨op, a, b, col, ⟨k, n, s⟩⟩ := x
  have H := Lib.hid (show evO ⟨op, a, b, col, ⟨k, n, s⟩⟩ pre row = ⟨0, 0, []⟩ by unfold evO; rw [if_pos hb]; rfl)
  rw [hb] at hL
  have HL := Lib.hid hL
  clear hL hb
  go_enter Tryz.func188, Tryz.ntmps188
  go_wp2_with fail
  refine (HL.out _).mono ?_; rintro e w1 ⟨rfl, hg⟩
  have k0 := box2r _ _ _ _ hg 0 (.int .i64 0) rfl
  have k1 := box2r _ _ _ _ hg 1 (.int .i64 0) rfl
  have k2 := box2r _ _ _ _ hg 2 (sv []) rfl
  have kf0 := box2f _ _ _ _ hg 0
  have kf1 := box2f _ _ _ _ hg 1
  have kf2 := box2f _ _ _ _ hg 2
  obtain ⟨gc, gf⟩ := gcell hg
  have hsz : w.heap.size + 1 < w1.heap.size := by have := hg.2.2; rw [alsz, alsz] at this; omega
  have hE : Ext w w1 := (((Ext.refl _).alloc _ _).alloc _ _).trans (ext_of_grown hg)
  go_wp2_with fail
  exact bodyPost_ret (v := vv ⟨0, 0, []⟩) (by simp [results, Tryz.results188, go_sem, k0, k1, k2]) rfl ⟨ret_vv H.out.symm, by repeat (first | exact hE | exact Ext.refl _ | refine Ext.alloc ?_ _ _ | refine Ext.setNew ?_ _ _ (by simp; try omega) _)⟩
end Go.Proofs.YtfojeajmonnifaaGreatDoor
/- The value of one expression, of the program. -/
namespace Go.Proofs.YtfojeajmonnifaaGreatDoor
open Go.ChangeShapes Go.WideShapes Go.ChangeAt Go.RowKit

set_option maxHeartbeats 8000000 in
theorem evo_1 (x : X) (pre row : List V) (vp vr : Value) (w : World) (hp : RdG w vp pre) (hr : RdG w vr row) (hop : ∀ v ∈ pre, okN v.n) (hb : lgl x pre.length = true) (h1 : x.op = 1) : Calls Tryz.prog 188 #[xv x, vp, vr] w fun e w' => e = .returned (vv (evO x pre row)) ∧ Ext w w' := by
  obtain ⟨ap, cp, rfl, lp1, lp2⟩ := hp.shape
  obtain ⟨ac, cc, rfl, lc1, lc2⟩ := hr.shape
  have hL := lgl_prg x pre.length
  have HP := Lib.hid hp
  have HR := Lib.hid hr
  have HO := Lib.hid hop
  clear hp hr hop
  unfold maxLen at lp2 lc2
  obtain ⟨op, a, b, col, ⟨k, n, s⟩⟩ := x
  simp only at h1
  rw [hb] at hL
  have HL := Lib.hid hL
  clear hL
  subst h1
  have H := Lib.hid (show evO ⟨1, a, b, col, ⟨k, n, s⟩⟩ pre row = ⟨k, n, s⟩ by unfold evO; rw [if_neg (by rw [hb]; decide), if_pos rfl])
  clear hb
  go_enter Tryz.func188, Tryz.ntmps188
  go_wp2_with fail
  refine (HL.out _).mono ?_; rintro e w1 ⟨rfl, hg⟩
  have k0 := box2r _ _ _ _ hg 0 (.int .i64 0) rfl
  have k1 := box2r _ _ _ _ hg 1 (.int .i64 0) rfl
  have k2 := box2r _ _ _ _ hg 2 (sv []) rfl
  have kf0 := box2f _ _ _ _ hg 0
  have kf1 := box2f _ _ _ _ hg 1
  have kf2 := box2f _ _ _ _ hg 2
  obtain ⟨gc, gf⟩ := gcell hg
  have hsz : w.heap.size + 1 < w1.heap.size := by have := hg.2.2; rw [alsz, alsz] at this; omega
  have hE : Ext w w1 := (((Ext.refl _).alloc _ _).alloc _ _).trans (ext_of_grown hg)
  go_wp2_with fail
  exact bodyPost_ret (v := vv ⟨k, n, s⟩) (by simp [results, Tryz.results188, go_sem, k0, k1, k2]) rfl ⟨ret_vv H.out.symm, by repeat (first | exact hE | exact Ext.refl _ | refine Ext.alloc ?_ _ _ | refine Ext.setNew ?_ _ _ (by simp; try omega) _)⟩
end Go.Proofs.YtfojeajmonnifaaGreatDoor
/- The value of one expression, of the program. -/
namespace Go.Proofs.YtfojeajmonnifaaGreatDoor
open Go.ChangeShapes Go.WideShapes Go.ChangeAt Go.RowKit

set_option maxHeartbeats 8000000 in
theorem evo_10 (x : X) (pre row : List V) (vp vr : Value) (w : World) (hp : RdG w vp pre) (hr : RdG w vr row) (hop : ∀ v ∈ pre, okN v.n) (hb : lgl x pre.length = true) (h1 : x.op ≠ 1) (h2 : x.op ≠ 2) (h10 : x.op = 10) : Calls Tryz.prog 188 #[xv x, vp, vr] w fun e w' => e = .returned (vv (evO x pre row)) ∧ Ext w w' := by
  obtain ⟨ap, cp, rfl, lp1, lp2⟩ := hp.shape
  obtain ⟨ac, cc, rfl, lc1, lc2⟩ := hr.shape
  have hL := lgl_prg x pre.length
  have HP := Lib.hid hp
  have HR := Lib.hid hr
  have HO := Lib.hid hop
  clear hp hr hop
  unfold maxLen at lp2 lc2
  obtain ⟨op, a, b, col, ⟨k, n, s⟩⟩ := x
  simp only at h1 h2 h10
  rw [hb] at hL
  have HL := Lib.hid hL
  clear hL
  subst h10
  have hx := lgA_lt (lgl_one (x := ⟨10, a, b, col, ⟨k, n, s⟩⟩) (show ari 10 = 1 by decide) ▸ hb)
  simp only at hx
  obtain ⟨j, rfl⟩ := nat_of hx.1
  have hj : j < pre.length := by omega
  have hH : evO ⟨10, j, b, col, ⟨k, n, s⟩⟩ pre row = booV (!truB pre[j]) := by unfold evO; rw [if_neg (by rw [hb]; decide), if_neg (by simp), if_neg (by simp), if_neg (by simp), if_neg (by simp), if_pos rfl, atV_at _ _ hj]
  have hT := tru_prg pre[j]
  obtain ⟨g, o, rfl, c0, c1, c2⟩ := rd_V HP.out j hj
  generalize pre[j] = v at *
  obtain ⟨vk, vn, vs⟩ := v
  simp only at c0 c1 c2
  have hjl : (j : Int) < (pre.length : Int) := by omega
  clear hb hx
  cases ht : truB ⟨vk, vn, vs⟩ with
  | true =>
    rw [ht] at hT hH
    have HT := Lib.hid hT
    have H := Lib.hid (hH.trans (show booV (!true) = ⟨3, 0, []⟩ from rfl))
    have HB := Lib.hid (boo_prg false)
    clear hT hH ht
    go_enter Tryz.func188, Tryz.ntmps188
    go_wp2_with fail
    refine (HL.out _).mono ?_; rintro e w1 ⟨rfl, hg⟩
    have k0 := box2r _ _ _ _ hg 0 (.int .i64 0) rfl
    have k1 := box2r _ _ _ _ hg 1 (.int .i64 0) rfl
    have k2 := box2r _ _ _ _ hg 2 (sv []) rfl
    have kf0 := box2f _ _ _ _ hg 0
    have kf1 := box2f _ _ _ _ hg 1
    have kf2 := box2f _ _ _ _ hg 2
    obtain ⟨gc, gf⟩ := gcell hg
    have hsz : w.heap.size + 1 < w1.heap.size := by have := hg.2.2; rw [alsz, alsz] at this; omega
    have hE : Ext w w1 := (((Ext.refl _).alloc _ _).alloc _ _).trans (ext_of_grown hg)
    have d0 := hE.keeps c0
    have d1 := hE.keeps c1
    have d2 := hE.keeps c2
    go_wp2_with fail
    refine (HT.out _).mono ?_; rintro e w2 ⟨rfl, hg2⟩
    go_wp2_with fail
    refine (HB.out _).mono ?_; rintro e w3 ⟨rfl, hE3⟩
    have qG : Ext w1 w3 := (ext_of_grown hg2).trans hE3
    have k0 := qG.keeps k0
    have k1 := qG.keeps k1
    have k2 := qG.keeps k2
    have hs3 : w.heap.size + 1 < w3.heap.size := Nat.lt_of_lt_of_le hsz qG.2.2
    have e0 := (qG.2.1 ⟨w.heap.size + 1, 0, none⟩ hsz).trans kf0
    have e1 := (qG.2.1 ⟨w.heap.size + 1, 1, none⟩ hsz).trans kf1
    have e2 := (qG.2.1 ⟨w.heap.size + 1, 2, none⟩ hsz).trans kf2
    go_wp2_with fail
    exact bodyPost_ret (v := vv ⟨3, 0, []⟩) (by simp [results, Tryz.results188, go_sem, k0, k1, k2, booV]) rfl ⟨ret_vv H.out.symm, by repeat (first | exact hE.trans qG | exact Ext.refl _ | refine Ext.alloc ?_ _ _ | refine Ext.setNew ?_ _ _ (by simp; try omega) _)⟩
  | false =>
    rw [ht] at hT hH
    have HT := Lib.hid hT
    have H := Lib.hid (hH.trans (show booV (!false) = ⟨3, 1, []⟩ from rfl))
    have HB := Lib.hid (boo_prg true)
    clear hT hH ht
    go_enter Tryz.func188, Tryz.ntmps188
    go_wp2_with fail
    refine (HL.out _).mono ?_; rintro e w1 ⟨rfl, hg⟩
    have k0 := box2r _ _ _ _ hg 0 (.int .i64 0) rfl
    have k1 := box2r _ _ _ _ hg 1 (.int .i64 0) rfl
    have k2 := box2r _ _ _ _ hg 2 (sv []) rfl
    have kf0 := box2f _ _ _ _ hg 0
    have kf1 := box2f _ _ _ _ hg 1
    have kf2 := box2f _ _ _ _ hg 2
    obtain ⟨gc, gf⟩ := gcell hg
    have hsz : w.heap.size + 1 < w1.heap.size := by have := hg.2.2; rw [alsz, alsz] at this; omega
    have hE : Ext w w1 := (((Ext.refl _).alloc _ _).alloc _ _).trans (ext_of_grown hg)
    have d0 := hE.keeps c0
    have d1 := hE.keeps c1
    have d2 := hE.keeps c2
    go_wp2_with fail
    refine (HT.out _).mono ?_; rintro e w2 ⟨rfl, hg2⟩
    go_wp2_with fail
    refine (HB.out _).mono ?_; rintro e w3 ⟨rfl, hE3⟩
    have qG : Ext w1 w3 := (ext_of_grown hg2).trans hE3
    have k0 := qG.keeps k0
    have k1 := qG.keeps k1
    have k2 := qG.keeps k2
    have hs3 : w.heap.size + 1 < w3.heap.size := Nat.lt_of_lt_of_le hsz qG.2.2
    have e0 := (qG.2.1 ⟨w.heap.size + 1, 0, none⟩ hsz).trans kf0
    have e1 := (qG.2.1 ⟨w.heap.size + 1, 1, none⟩ hsz).trans kf1
    have e2 := (qG.2.1 ⟨w.heap.size + 1, 2, none⟩ hsz).trans kf2
    go_wp2_with fail
    exact bodyPost_ret (v := vv ⟨3, 1, []⟩) (by simp [results, Tryz.results188, go_sem, k0, k1, k2, booV]) rfl ⟨ret_vv H.out.symm, by repeat (first | exact hE.trans qG | exact Ext.refl _ | refine Ext.alloc ?_ _ _ | refine Ext.setNew ?_ _ _ (by simp; try omega) _)⟩
set_option maxHeartbeats 8000000 in
theorem evo_11 (x : X) (pre row : List V) (vp vr : Value) (w : World) (hp : RdG w vp pre) (hr : RdG w vr row) (hop : ∀ v ∈ pre, okN v.n) (hb : lgl x pre.length = true) (h1 : x.op ≠ 1) (h2 : x.op ≠ 2) (h10 : x.op ≠ 10) (h11 : x.op = 11) : Calls Tryz.prog 188 #[xv x, vp, vr] w fun e w' => e = .returned (vv (evO x pre row)) ∧ Ext w w' := by
  obtain ⟨ap, cp, rfl, lp1, lp2⟩ := hp.shape
  obtain ⟨ac, cc, rfl, lc1, lc2⟩ := hr.shape
  have hL := lgl_prg x pre.length
  have HP := Lib.hid hp
  have HR := Lib.hid hr
  have HO := Lib.hid hop
  clear hp hr hop
  unfold maxLen at lp2 lc2
  obtain ⟨op, a, b, col, ⟨k, n, s⟩⟩ := x
  simp only at h1 h2 h10 h11
  rw [hb] at hL
  have HL := Lib.hid hL
  clear hL
  subst h11
  have hx := lgA_lt (lgl_one (x := ⟨11, a, b, col, ⟨k, n, s⟩⟩) (show ari 11 = 1 by decide) ▸ hb)
  simp only at hx
  obtain ⟨j, rfl⟩ := nat_of hx.1
  have hj : j < pre.length := by omega
  have hH : evO ⟨11, j, b, col, ⟨k, n, s⟩⟩ pre row = booV (decide (pre[j].k = 0)) := by unfold evO; rw [if_neg (by rw [hb]; decide), if_neg (by simp), if_neg (by simp), if_neg (by simp), if_neg (by simp), if_neg (by simp), if_pos rfl, atV_at _ _ hj]
  obtain ⟨g, o, rfl, c0, c1, c2⟩ := rd_V HP.out j hj
  generalize pre[j] = v at *
  obtain ⟨vk, vn, vs⟩ := v
  simp only at c0 c1 c2
  have hjl : (j : Int) < (pre.length : Int) := by omega
  clear hb hx
  by_cases hz : vk = 0
  · subst hz
    have H := Lib.hid (hH.trans (show booV (decide ((0 : Int) = 0)) = ⟨3, 1, []⟩ from rfl))
    have HB := Lib.hid (boo_prg true)
    clear hH
    go_enter Tryz.func188, Tryz.ntmps188
    go_wp2_with fail
    refine (HL.out _).mono ?_; rintro e w1 ⟨rfl, hg⟩
    have k0 := box2r _ _ _ _ hg 0 (.int .i64 0) rfl
    have k1 := box2r _ _ _ _ hg 1 (.int .i64 0) rfl
    have k2 := box2r _ _ _ _ hg 2 (sv []) rfl
    have kf0 := box2f _ _ _ _ hg 0
    have kf1 := box2f _ _ _ _ hg 1
    have kf2 := box2f _ _ _ _ hg 2
    obtain ⟨gc, gf⟩ := gcell hg
    have hsz : w.heap.size + 1 < w1.heap.size := by have := hg.2.2; rw [alsz, alsz] at this; omega
    have hE : Ext w w1 := (((Ext.refl _).alloc _ _).alloc _ _).trans (ext_of_grown hg)
    have d0 := hE.keeps c0
    go_wp2_with fail
    refine (HB.out _).mono ?_; rintro e w3 ⟨rfl, qG⟩
    have k0 := qG.keeps k0
    have k1 := qG.keeps k1
    have k2 := qG.keeps k2
    have hs3 : w.heap.size + 1 < w3.heap.size := Nat.lt_of_lt_of_le hsz qG.2.2
    have e0 := (qG.2.1 ⟨w.heap.size + 1, 0, none⟩ hsz).trans kf0
    have e1 := (qG.2.1 ⟨w.heap.size + 1, 1, none⟩ hsz).trans kf1
    have e2 := (qG.2.1 ⟨w.heap.size + 1, 2, none⟩ hsz).trans kf2
    go_wp2_with fail
    exact bodyPost_ret (v := vv ⟨3, 1, []⟩) (by simp [results, Tryz.results188, go_sem, k0, k1, k2, booV]) rfl ⟨ret_vv H.out.symm, by repeat (first | exact hE.trans qG | exact Ext.refl _ | refine Ext.alloc ?_ _ _ | refine Ext.setNew ?_ _ _ (by simp; try omega) _)⟩
  · have hz1 : (vk == 0) = false := by simpa using hz
    have H := Lib.hid (hH.trans (show booV (decide (vk = 0)) = ⟨3, 0, []⟩ by rw [decide_eq_false hz]; rfl))
    have HB := Lib.hid (boo_prg false)
    clear hH
    go_enter Tryz.func188, Tryz.ntmps188
    go_wp2_with fail
    refine (HL.out _).mono ?_; rintro e w1 ⟨rfl, hg⟩
    have k0 := box2r _ _ _ _ hg 0 (.int .i64 0) rfl
    have k1 := box2r _ _ _ _ hg 1 (.int .i64 0) rfl
    have k2 := box2r _ _ _ _ hg 2 (sv []) rfl
    have kf0 := box2f _ _ _ _ hg 0
    have kf1 := box2f _ _ _ _ hg 1
    have kf2 := box2f _ _ _ _ hg 2
    obtain ⟨gc, gf⟩ := gcell hg
    have hsz : w.heap.size + 1 < w1.heap.size := by have := hg.2.2; rw [alsz, alsz] at this; omega
    have hE : Ext w w1 := (((Ext.refl _).alloc _ _).alloc _ _).trans (ext_of_grown hg)
    have d0 := hE.keeps c0
    go_wp2_with fail
    refine (HB.out _).mono ?_; rintro e w3 ⟨rfl, qG⟩
    have k0 := qG.keeps k0
    have k1 := qG.keeps k1
    have k2 := qG.keeps k2
    have hs3 : w.heap.size + 1 < w3.heap.size := Nat.lt_of_lt_of_le hsz qG.2.2
    have e0 := (qG.2.1 ⟨w.heap.size + 1, 0, none⟩ hsz).trans kf0
    have e1 := (qG.2.1 ⟨w.heap.size + 1, 1, none⟩ hsz).trans kf1
    have e2 := (qG.2.1 ⟨w.heap.size + 1, 2, none⟩ hsz).trans kf2
    go_wp2_with fail
    exact bodyPost_ret (v := vv ⟨3, 0, []⟩) (by simp [results, Tryz.results188, go_sem, k0, k1, k2, booV]) rfl ⟨ret_vv H.out.symm, by repeat (first | exact hE.trans qG | exact Ext.refl _ | refine Ext.alloc ?_ _ _ | refine Ext.setNew ?_ _ _ (by simp; try omega) _)⟩
end Go.Proofs.YtfojeajmonnifaaGreatDoor
