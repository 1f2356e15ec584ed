/- Types, of the program: one operand, two operands. -/
import Derived.Test.YtfojeajmonnifaaGreatDoorZz06
namespace Go.Proofs.YtfojeajmonnifaaGreatDoor
open Go.ChangeShapes Go.WideShapes Go.ChangeAt Go.RowKit

theorem ret_kv {a b : Int × Int} (h : a = b) : Ending.returned (kv a) = .returned (kv b) := by rw [h]
set_option maxHeartbeats 2000000 in
theorem un_prg (op : Int) (a : Int × Int) (hc : a.2 ≠ 0 → a.1 = 0) (w : World) : Calls Tryz.prog 198 #[.int .i64 op, kv a] w fun e w' => e = .returned (kv (unO op a)) ∧ Ext w w' := by
  obtain ⟨k, er⟩ := a
  simp only at hc
  have hAc := acc_prg 3 k
  by_cases h : er = 0
  · subst h
    clear hc
    by_cases ho : op = 10
    · subst ho
      cases hb : accB 3 k with
      | true =>
        rw [hb] at hAc
        have HA := Lib.hid hAc
        have H := Lib.hid (show unO 10 (k, 0) = (3, 0) by simp [unO, hb])
        clear hAc hb
        go_enter Tryz.func198, Tryz.ntmps198
        go_wp2_with fail
        refine (HA.out _).mono ?_; rintro e w1 ⟨rfl, rfl⟩
        go_wp2_with fail
        exact bodyPost_ret (v := kv (3, 0)) (by simp [results, Tryz.results198, go_sem]) rfl ⟨ret_kv H.out.symm, by repeat (first | exact Ext.refl _ | refine Ext.alloc ?_ _ _ | refine Ext.setNew ?_ _ _ (by simp; try omega) _)⟩
      | false =>
        rw [hb] at hAc
        have HA := Lib.hid hAc
        have H := Lib.hid (show unO 10 (k, 0) = (0, 7) by simp [unO, hb])
        clear hAc hb
        go_enter Tryz.func198, Tryz.ntmps198
        go_wp2_with fail
        refine (HA.out _).mono ?_; rintro e w1 ⟨rfl, rfl⟩
        go_wp2_with fail
        exact bodyPost_ret (v := kv (0, 7)) (by simp [results, Tryz.results198, go_sem]) rfl ⟨ret_kv H.out.symm, by repeat (first | exact Ext.refl _ | refine Ext.alloc ?_ _ _ | refine Ext.setNew ?_ _ _ (by simp; try omega) _)⟩
    · have H := Lib.hid (show unO op (k, 0) = (3, 0) by simp [unO, ho])
      clear hAc
      go_enter Tryz.func198, Tryz.ntmps198
      go_wp2_with fail
      exact bodyPost_ret (v := kv (3, 0)) (by simp [results, Tryz.results198, go_sem]) rfl ⟨ret_kv H.out.symm, by repeat (first | exact Ext.refl _ | refine Ext.alloc ?_ _ _ | refine Ext.setNew ?_ _ _ (by simp; try omega) _)⟩
  · obtain rfl := hc h
    have H := Lib.hid (show unO op (0, er) = (0, er) by simp [unO, h])
    clear hAc hc
    go_enter Tryz.func198, Tryz.ntmps198
    go_wp2_with fail
    exact bodyPost_ret (v := kv (0, er)) (by simp [results, Tryz.results198, go_sem]) rfl ⟨ret_kv H.out.symm, by repeat (first | exact Ext.refl _ | refine Ext.alloc ?_ _ _ | refine Ext.setNew ?_ _ _ (by simp; try omega) _)⟩
/-- the type that a comparison requires -/
def wantK (ka kb : Int) : Int := if ka = 0 then kb else ka
theorem want_acc (ka kb : Int) : (accB (wantK ka kb) ka = true ∧ accB (wantK ka kb) kb = decide (ka = kb ∨ ka = 0 ∨ kb = 0)) := by
  unfold wantK accB; constructor
  · split <;> simp_all
  · split
    · simp_all
    · next h => rw [decide_eq_decide]; omega
set_option maxHeartbeats 4000000 in
theorem bi_prg (op : Int) (ho : 3 ≤ op ∧ op ≤ 9) (a b : Int × Int) (hca : a.2 ≠ 0 → a.1 = 0) (hcb : b.2 ≠ 0 → b.1 = 0) (w : World) : Calls Tryz.prog 199 #[.int .i64 op, kv a, kv b] w fun e w' => e = .returned (kv (biO op a b)) ∧ Ext w w' := by
  obtain ⟨ka, ea⟩ := a
  obtain ⟨kb, eb⟩ := b
  simp only at hca hcb
  by_cases h : ea = 0
  case neg =>
    obtain rfl := hca h
    have H := Lib.hid (show biO op (0, ea) (kb, eb) = (0, ea) by simp [biO, h])
    clear hca hcb ho
    go_enter Tryz.func199, Tryz.ntmps199
    go_wp2_with fail
    exact bodyPost_ret (v := kv (0, ea)) (by simp [results, Tryz.results199, go_sem]) rfl ⟨ret_kv H.out.symm, by repeat (first | exact Ext.refl _ | refine Ext.alloc ?_ _ _ | refine Ext.setNew ?_ _ _ (by simp; try omega) _)⟩
  subst h
  by_cases h : eb = 0
  case neg =>
    obtain rfl := hcb h
    have H := Lib.hid (show biO op (ka, 0) (0, eb) = (0, eb) by simp [biO, h])
    clear hca hcb ho
    go_enter Tryz.func199, Tryz.ntmps199
    go_wp2_with fail
    exact bodyPost_ret (v := kv (0, eb)) (by simp [results, Tryz.results199, go_sem]) rfl ⟨ret_kv H.out.symm, by repeat (first | exact Ext.refl _ | refine Ext.alloc ?_ _ _ | refine Ext.setNew ?_ _ _ (by simp; try omega) _)⟩
  subst h
  clear hca hcb
  rcases (show op = 3 ∨ op = 4 ∨ op = 5 ∨ op = 6 ∨ op = 7 ∨ op = 8 ∨ op = 9 by omega) with rfl | rfl | rfl | rfl | rfl | rfl | rfl
  · have hA := acc_prg 1 ka
    have hB := acc_prg 1 kb
    cases ha : accB 1 ka with
    | false =>
      rw [ha] at hA
      have HA := Lib.hid hA
      have H := Lib.hid (show biO 3 (ka, 0) (kb, 0) = (0, 7) by simp [biO, ha])
      clear hA hB ha ho
      go_enter Tryz.func199, Tryz.ntmps199
      go_wp2_with fail
      refine (HA.out _).mono ?_; rintro e w1 ⟨rfl, rfl⟩
      go_wp2_with fail
      exact bodyPost_ret (v := kv (0, 7)) (by simp [results, Tryz.results199, go_sem]) rfl ⟨ret_kv H.out.symm, by repeat (first | exact Ext.refl _ | refine Ext.alloc ?_ _ _ | refine Ext.setNew ?_ _ _ (by simp; try omega) _)⟩
    | true =>
      rw [ha] at hA
      have HA := Lib.hid hA
      cases hb : accB 1 kb with
      | false =>
        rw [hb] at hB
        have HB := Lib.hid hB
        have H := Lib.hid (show biO 3 (ka, 0) (kb, 0) = (0, 7) by simp [biO, ha, hb])
        clear hA hB ha hb ho
        go_enter Tryz.func199, Tryz.ntmps199
        go_wp2_with fail
        refine (HA.out _).mono ?_; rintro e w1 ⟨rfl, rfl⟩
        go_wp2_with fail
        refine (HB.out _).mono ?_; rintro e w1 ⟨rfl, rfl⟩
        go_wp2_with fail
        exact bodyPost_ret (v := kv (0, 7)) (by simp [results, Tryz.results199, go_sem]) rfl ⟨ret_kv H.out.symm, by repeat (first | exact Ext.refl _ | refine Ext.alloc ?_ _ _ | refine Ext.setNew ?_ _ _ (by simp; try omega) _)⟩
      | true =>
        rw [hb] at hB
        have HB := Lib.hid hB
        have H := Lib.hid (show biO 3 (ka, 0) (kb, 0) = (1, 0) by simp [biO, ha, hb])
        clear hA hB ha hb ho
        go_enter Tryz.func199, Tryz.ntmps199
        go_wp2_with fail
        refine (HA.out _).mono ?_; rintro e w1 ⟨rfl, rfl⟩
        go_wp2_with fail
        refine (HB.out _).mono ?_; rintro e w1 ⟨rfl, rfl⟩
        go_wp2_with fail
        exact bodyPost_ret (v := kv (1, 0)) (by simp [results, Tryz.results199, go_sem]) rfl ⟨ret_kv H.out.symm, by repeat (first | exact Ext.refl _ | refine Ext.alloc ?_ _ _ | refine Ext.setNew ?_ _ _ (by simp; try omega) _)⟩
  · have hA := acc_prg 1 ka
    have hB := acc_prg 1 kb
    cases ha : accB 1 ka with
    | false =>
      rw [ha] at hA
      have HA := Lib.hid hA
      have H := Lib.hid (show biO 4 (ka, 0) (kb, 0) = (0, 7) by simp [biO, ha])
      clear hA hB ha ho
      go_enter Tryz.func199, Tryz.ntmps199
      go_wp2_with fail
      refine (HA.out _).mono ?_; rintro e w1 ⟨rfl, rfl⟩
      go_wp2_with fail
      exact bodyPost_ret (v := kv (0, 7)) (by simp [results, Tryz.results199, go_sem]) rfl ⟨ret_kv H.out.symm, by repeat (first | exact Ext.refl _ | refine Ext.alloc ?_ _ _ | refine Ext.setNew ?_ _ _ (by simp; try omega) _)⟩
    | true =>
      rw [ha] at hA
      have HA := Lib.hid hA
      cases hb : accB 1 kb with
      | false =>
        rw [hb] at hB
        have HB := Lib.hid hB
        have H := Lib.hid (show biO 4 (ka, 0) (kb, 0) = (0, 7) by simp [biO, ha, hb])
        clear hA hB ha hb ho
        go_enter Tryz.func199, Tryz.ntmps199
        go_wp2_with fail
        refine (HA.out _).mono ?_; rintro e w1 ⟨rfl, rfl⟩
        go_wp2_with fail
        refine (HB.out _).mono ?_; rintro e w1 ⟨rfl, rfl⟩
        go_wp2_with fail
        exact bodyPost_ret (v := kv (0, 7)) (by simp [results, Tryz.results199, go_sem]) rfl ⟨ret_kv H.out.symm, by repeat (first | exact Ext.refl _ | refine Ext.alloc ?_ _ _ | refine Ext.setNew ?_ _ _ (by simp; try omega) _)⟩
      | true =>
        rw [hb] at hB
        have HB := Lib.hid hB
        have H := Lib.hid (show biO 4 (ka, 0) (kb, 0) = (1, 0) by simp [biO, ha, hb])
        clear hA hB ha hb ho
        go_enter Tryz.func199, Tryz.ntmps199
        go_wp2_with fail
        refine (HA.out _).mono ?_; rintro e w1 ⟨rfl, rfl⟩
        go_wp2_with fail
        refine (HB.out _).mono ?_; rintro e w1 ⟨rfl, rfl⟩
        go_wp2_with fail
        exact bodyPost_ret (v := kv (1, 0)) (by simp [results, Tryz.results199, go_sem]) rfl ⟨ret_kv H.out.symm, by repeat (first | exact Ext.refl _ | refine Ext.alloc ?_ _ _ | refine Ext.setNew ?_ _ _ (by simp; try omega) _)⟩
  · have hA := acc_prg 1 ka
    have hB := acc_prg 1 kb
    cases ha : accB 1 ka with
    | false =>
      rw [ha] at hA
      have HA := Lib.hid hA
      have H := Lib.hid (show biO 5 (ka, 0) (kb, 0) = (0, 7) by simp [biO, ha])
      clear hA hB ha ho
      go_enter Tryz.func199, Tryz.ntmps199
      go_wp2_with fail
      refine (HA.out _).mono ?_; rintro e w1 ⟨rfl, rfl⟩
      go_wp2_with fail
      exact bodyPost_ret (v := kv (0, 7)) (by simp [results, Tryz.results199, go_sem]) rfl ⟨ret_kv H.out.symm, by repeat (first | exact Ext.refl _ | refine Ext.alloc ?_ _ _ | refine Ext.setNew ?_ _ _ (by simp; try omega) _)⟩
    | true =>
      rw [ha] at hA
      have HA := Lib.hid hA
      cases hb : accB 1 kb with
      | false =>
        rw [hb] at hB
        have HB := Lib.hid hB
        have H := Lib.hid (show biO 5 (ka, 0) (kb, 0) = (0, 7) by simp [biO, ha, hb])
        clear hA hB ha hb ho
        go_enter Tryz.func199, Tryz.ntmps199
        go_wp2_with fail
        refine (HA.out _).mono ?_; rintro e w1 ⟨rfl, rfl⟩
        go_wp2_with fail
        refine (HB.out _).mono ?_; rintro e w1 ⟨rfl, rfl⟩
        go_wp2_with fail
        exact bodyPost_ret (v := kv (0, 7)) (by simp [results, Tryz.results199, go_sem]) rfl ⟨ret_kv H.out.symm, by repeat (first | exact Ext.refl _ | refine Ext.alloc ?_ _ _ | refine Ext.setNew ?_ _ _ (by simp; try omega) _)⟩
      | true =>
        rw [hb] at hB
        have HB := Lib.hid hB
        have H := Lib.hid (show biO 5 (ka, 0) (kb, 0) = (1, 0) by simp [biO, ha, hb])
        clear hA hB ha hb ho
        go_enter Tryz.func199, Tryz.ntmps199
        go_wp2_with fail
        refine (HA.out _).mono ?_; rintro e w1 ⟨rfl, rfl⟩
        go_wp2_with fail
        refine (HB.out _).mono ?_; rintro e w1 ⟨rfl, rfl⟩
        go_wp2_with fail
        exact bodyPost_ret (v := kv (1, 0)) (by simp [results, Tryz.results199, go_sem]) rfl ⟨ret_kv H.out.symm, by repeat (first | exact Ext.refl _ | refine Ext.alloc ?_ _ _ | refine Ext.setNew ?_ _ _ (by simp; try omega) _)⟩
  · have hw := want_acc ka kb
    have hA := acc_prg (wantK ka kb) ka
    have hB := acc_prg (wantK ka kb) kb
    rw [hw.1] at hA
    rw [hw.2] at hB
    have hbi : biO 6 (ka, 0) (kb, 0) = if ka = kb ∨ ka = 0 ∨ kb = 0 then (3, 0) else (0, 7) := by simp [biO]
    clear hw
    by_cases hk : ka = 0
    · subst hk
      have hwk : wantK 0 kb = kb := by simp [wantK]
      rw [hwk] at hA hB
      rw [decide_eq_true (by simp)] at hB
      rw [if_pos (by simp)] at hbi
      have HA := Lib.hid hA
      have HB := Lib.hid hB
      have H := Lib.hid hbi
      clear hA hB hbi hwk ho
      go_enter Tryz.func199, Tryz.ntmps199
      go_wp2_with fail
      refine (HA.out _).mono ?_; rintro e w1 ⟨rfl, rfl⟩
      go_wp2_with fail
      refine (HB.out _).mono ?_; rintro e w1 ⟨rfl, rfl⟩
      go_wp2_with fail
      exact bodyPost_ret (v := kv (3, 0)) (by simp [results, Tryz.results199, go_sem]) rfl ⟨ret_kv H.out.symm, by repeat (first | exact Ext.refl _ | refine Ext.alloc ?_ _ _ | refine Ext.setNew ?_ _ _ (by simp; try omega) _)⟩
    · have hwk : wantK ka kb = ka := by simp [wantK, hk]
      rw [hwk] at hA hB
      by_cases hd : ka = kb ∨ ka = 0 ∨ kb = 0
      · rw [decide_eq_true hd] at hB
        rw [if_pos hd] at hbi
        have HA := Lib.hid hA
        have HB := Lib.hid hB
        have H := Lib.hid hbi
        clear hA hB hbi hwk hd ho
        go_enter Tryz.func199, Tryz.ntmps199
        go_wp2_with fail
        refine (HA.out _).mono ?_; rintro e w1 ⟨rfl, rfl⟩
        go_wp2_with fail
        refine (HB.out _).mono ?_; rintro e w1 ⟨rfl, rfl⟩
        go_wp2_with fail
        exact bodyPost_ret (v := kv (3, 0)) (by simp [results, Tryz.results199, go_sem]) rfl ⟨ret_kv H.out.symm, by repeat (first | exact Ext.refl _ | refine Ext.alloc ?_ _ _ | refine Ext.setNew ?_ _ _ (by simp; try omega) _)⟩
      · rw [decide_eq_false hd] at hB
        rw [if_neg hd] at hbi
        have HA := Lib.hid hA
        have HB := Lib.hid hB
        have H := Lib.hid hbi
        clear hA hB hbi hwk hd ho
        go_enter Tryz.func199, Tryz.ntmps199
        go_wp2_with fail
        refine (HA.out _).mono ?_; rintro e w1 ⟨rfl, rfl⟩
        go_wp2_with fail
        refine (HB.out _).mono ?_; rintro e w1 ⟨rfl, rfl⟩
        go_wp2_with fail
        exact bodyPost_ret (v := kv (0, 7)) (by simp [results, Tryz.results199, go_sem]) rfl ⟨ret_kv H.out.symm, by repeat (first | exact Ext.refl _ | refine Ext.alloc ?_ _ _ | refine Ext.setNew ?_ _ _ (by simp; try omega) _)⟩
  · have hw := want_acc ka kb
    have hA := acc_prg (wantK ka kb) ka
    have hB := acc_prg (wantK ka kb) kb
    rw [hw.1] at hA
    rw [hw.2] at hB
    have hbi : biO 7 (ka, 0) (kb, 0) = if ka = kb ∨ ka = 0 ∨ kb = 0 then (3, 0) else (0, 7) := by simp [biO]
    clear hw
    by_cases hk : ka = 0
    · subst hk
      have hwk : wantK 0 kb = kb := by simp [wantK]
      rw [hwk] at hA hB
      rw [decide_eq_true (by simp)] at hB
      rw [if_pos (by simp)] at hbi
      have HA := Lib.hid hA
      have HB := Lib.hid hB
      have H := Lib.hid hbi
      clear hA hB hbi hwk ho
      go_enter Tryz.func199, Tryz.ntmps199
      go_wp2_with fail
      refine (HA.out _).mono ?_; rintro e w1 ⟨rfl, rfl⟩
      go_wp2_with fail
      refine (HB.out _).mono ?_; rintro e w1 ⟨rfl, rfl⟩
      go_wp2_with fail
      exact bodyPost_ret (v := kv (3, 0)) (by simp [results, Tryz.results199, go_sem]) rfl ⟨ret_kv H.out.symm, by repeat (first | exact Ext.refl _ | refine Ext.alloc ?_ _ _ | refine Ext.setNew ?_ _ _ (by simp; try omega) _)⟩
    · have hwk : wantK ka kb = ka := by simp [wantK, hk]
      rw [hwk] at hA hB
      by_cases hd : ka = kb ∨ ka = 0 ∨ kb = 0
      · rw [decide_eq_true hd] at hB
        rw [if_pos hd] at hbi
        have HA := Lib.hid hA
        have HB := Lib.hid hB
        have H := Lib.hid hbi
        clear hA hB hbi hwk hd ho
        go_enter Tryz.func199, Tryz.ntmps199
        go_wp2_with fail
        refine (HA.out _).mono ?_; rintro e w1 ⟨rfl, rfl⟩
        go_wp2_with fail
        refine (HB.out _).mono ?_; rintro e w1 ⟨rfl, rfl⟩
        go_wp2_with fail
        exact bodyPost_ret (v := kv (3, 0)) (by simp [results, Tryz.results199, go_sem]) rfl ⟨ret_kv H.out.symm, by repeat (first | exact Ext.refl _ | refine Ext.alloc ?_ _ _ | refine Ext.setNew ?_ _ _ (by simp; try omega) _)⟩
      · rw [decide_eq_false hd] at hB
        rw [if_neg hd] at hbi
        have HA := Lib.hid hA
        have HB := Lib.hid hB
        have H := Lib.hid hbi
        clear hA hB hbi hwk hd ho
        go_enter Tryz.func199, Tryz.ntmps199
        go_wp2_with fail
        refine (HA.out _).mono ?_; rintro e w1 ⟨rfl, rfl⟩
        go_wp2_with fail
        refine (HB.out _).mono ?_; rintro e w1 ⟨rfl, rfl⟩
        go_wp2_with fail
        exact bodyPost_ret (v := kv (0, 7)) (by simp [results, Tryz.results199, go_sem]) rfl ⟨ret_kv H.out.symm, by repeat (first | exact Ext.refl _ | refine Ext.alloc ?_ _ _ | refine Ext.setNew ?_ _ _ (by simp; try omega) _)⟩
  · have hA := acc_prg 3 ka
    have hB := acc_prg 3 kb
    cases ha : accB 3 ka with
    | false =>
      rw [ha] at hA
      have HA := Lib.hid hA
      have H := Lib.hid (show biO 8 (ka, 0) (kb, 0) = (0, 7) by simp [biO, ha])
      clear hA hB ha ho
      go_enter Tryz.func199, Tryz.ntmps199
      go_wp2_with fail
      refine (HA.out _).mono ?_; rintro e w1 ⟨rfl, rfl⟩
      go_wp2_with fail
      exact bodyPost_ret (v := kv (0, 7)) (by simp [results, Tryz.results199, go_sem]) rfl ⟨ret_kv H.out.symm, by repeat (first | exact Ext.refl _ | refine Ext.alloc ?_ _ _ | refine Ext.setNew ?_ _ _ (by simp; try omega) _)⟩
    | true =>
      rw [ha] at hA
      have HA := Lib.hid hA
      cases hb : accB 3 kb with
      | false =>
        rw [hb] at hB
        have HB := Lib.hid hB
        have H := Lib.hid (show biO 8 (ka, 0) (kb, 0) = (0, 7) by simp [biO, ha, hb])
        clear hA hB ha hb ho
        go_enter Tryz.func199, Tryz.ntmps199
        go_wp2_with fail
        refine (HA.out _).mono ?_; rintro e w1 ⟨rfl, rfl⟩
        go_wp2_with fail
        refine (HB.out _).mono ?_; rintro e w1 ⟨rfl, rfl⟩
        go_wp2_with fail
        exact bodyPost_ret (v := kv (0, 7)) (by simp [results, Tryz.results199, go_sem]) rfl ⟨ret_kv H.out.symm, by repeat (first | exact Ext.refl _ | refine Ext.alloc ?_ _ _ | refine Ext.setNew ?_ _ _ (by simp; try omega) _)⟩
      | true =>
        rw [hb] at hB
        have HB := Lib.hid hB
        have H := Lib.hid (show biO 8 (ka, 0) (kb, 0) = (3, 0) by simp [biO, ha, hb])
        clear hA hB ha hb ho
        go_enter Tryz.func199, Tryz.ntmps199
        go_wp2_with fail
        refine (HA.out _).mono ?_; rintro e w1 ⟨rfl, rfl⟩
        go_wp2_with fail
        refine (HB.out _).mono ?_; rintro e w1 ⟨rfl, rfl⟩
        go_wp2_with fail
        exact bodyPost_ret (v := kv (3, 0)) (by simp [results, Tryz.results199, go_sem]) rfl ⟨ret_kv H.out.symm, by repeat (first | exact Ext.refl _ | refine Ext.alloc ?_ _ _ | refine Ext.setNew ?_ _ _ (by simp; try omega) _)⟩
  · have hA := acc_prg 3 ka
    have hB := acc_prg 3 kb
    cases ha : accB 3 ka with
    | false =>
      rw [ha] at hA
      have HA := Lib.hid hA
      have H := Lib.hid (show biO 9 (ka, 0) (kb, 0) = (0, 7) by simp [biO, ha])
      clear hA hB ha ho
      go_enter Tryz.func199, Tryz.ntmps199
      go_wp2_with fail
      refine (HA.out _).mono ?_; rintro e w1 ⟨rfl, rfl⟩
      go_wp2_with fail
      exact bodyPost_ret (v := kv (0, 7)) (by simp [results, Tryz.results199, go_sem]) rfl ⟨ret_kv H.out.symm, by repeat (first | exact Ext.refl _ | refine Ext.alloc ?_ _ _ | refine Ext.setNew ?_ _ _ (by simp; try omega) _)⟩
    | true =>
      rw [ha] at hA
      have HA := Lib.hid hA
      cases hb : accB 3 kb with
      | false =>
        rw [hb] at hB
        have HB := Lib.hid hB
        have H := Lib.hid (show biO 9 (ka, 0) (kb, 0) = (0, 7) by simp [biO, ha, hb])
        clear hA hB ha hb ho
        go_enter Tryz.func199, Tryz.ntmps199
        go_wp2_with fail
        refine (HA.out _).mono ?_; rintro e w1 ⟨rfl, rfl⟩
        go_wp2_with fail
        refine (HB.out _).mono ?_; rintro e w1 ⟨rfl, rfl⟩
        go_wp2_with fail
        exact bodyPost_ret (v := kv (0, 7)) (by simp [results, Tryz.results199, go_sem]) rfl ⟨ret_kv H.out.symm, by repeat (first | exact Ext.refl _ | refine Ext.alloc ?_ _ _ | refine Ext.setNew ?_ _ _ (by simp; try omega) _)⟩
      | true =>
        rw [hb] at hB
        have HB := Lib.hid hB
        have H := Lib.hid (show biO 9 (ka, 0) (kb, 0) = (3, 0) by simp [biO, ha, hb])
        clear hA hB ha hb ho
        go_enter Tryz.func199, Tryz.ntmps199
        go_wp2_with fail
        refine (HA.out _).mono ?_; rintro e w1 ⟨rfl, rfl⟩
        go_wp2_with fail
        refine (HB.out _).mono ?_; rintro e w1 ⟨rfl, rfl⟩
        go_wp2_with fail
        exact bodyPost_ret (v := kv (3, 0)) (by simp [results, Tryz.results199, go_sem]) rfl ⟨ret_kv H.out.symm, by repeat (first | exact Ext.refl _ | refine Ext.alloc ?_ _ _ | refine Ext.setNew ?_ _ _ (by simp; try omega) _)⟩
end Go.Proofs.YtfojeajmonnifaaGreatDoor
