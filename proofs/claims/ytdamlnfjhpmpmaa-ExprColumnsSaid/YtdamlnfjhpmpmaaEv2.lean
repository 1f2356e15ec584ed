/- Comparisons, conjunctions, arithmetic of the program. -/
import Derived.Test.YtdamlnfjhpmpmaaEv1
namespace Go.Proofs.Ytdamlnfjhpmpmaa
open Go.ChangeShapes Go.WideShapes Go.ChangeAt Go.RowKit

theorem gro2 {w w1 : World} (c d : Array Value) (t u : TypeId) (hg : Grown ((w.alloc (.cells c t)).alloc (.cells d u)) w1) : (∀ b o, b < w.heap.size + 2 → w1.cell? ⟨b, o, none⟩ = ((w.alloc (.cells c t)).alloc (.cells d u)).cell? ⟨b, o, none⟩) ∧ w.heap.size < w1.heap.size ∧ w.heap.size + 1 < w1.heap.size ∧ Grown w w1 := by
  have h := hg.2.2
  rw [alsz, alsz] at h
  exact ⟨fun b o hb => (gcell hg).1 b o (by rw [alsz, alsz]; omega), by omega, by omega, grown_trans (((Grown.refl _).alloc _ _).alloc _ _) hg⟩
set_option maxHeartbeats 2000000 in
theorem dec_6 (a b : V) (w : World) : Calls Try.prog 44 #[.int .i64 6, vv a, vv b] w fun e w' => e = .returned (.bool (decB 6 a b)) ∧ Grown w w' := by
  have hc := cmp_val a b
  have hd : decB 6 a b = decide (a.k ≠ 0 ∧ cmpV a b = 0) := by simp [decB, eqB]
  obtain ⟨k, n, s⟩ := a
  obtain ⟨k2, n2, s2⟩ := b
  simp only at hd
  generalize cmpV ⟨k, n, s⟩ ⟨k2, n2, s2⟩ = c at *
  have HC := Lib.hid hc
  clear hc
  by_cases h : k = 0
  · have H := Lib.hid (hd.trans (by simp [h]) : decB 6 ⟨k, n, s⟩ ⟨k2, n2, s2⟩ = false)
    subst h
    clear hd
    go_enter Try.func44, Try.ntmps44
    go_wp2_with fail
    go_ret
    exact ⟨ret_bool H.out.symm, ((Grown.refl _).alloc _ _).alloc _ _⟩
  · have H := Lib.hid (hd.trans (by simp [h]) : decB 6 ⟨k, n, s⟩ ⟨k2, n2, s2⟩ = decide (c = 0))
    clear hd
    go_enter Try.func44, Try.ntmps44
    go_wp2_with fail
    refine (HC.out _).mono ?_; rintro e w1 ⟨rfl, hg⟩
    go_wp2_with fail
    go_ret
    exact ⟨ret_bool (by rw [H.out]; cases hq : (k != 0) with | true => rfl | false => exact absurd (by simpa using hq) h), (gro2 _ _ _ _ hg).2.2.2⟩
set_option maxHeartbeats 2000000 in
theorem dec_7 (a b : V) (w : World) : Calls Try.prog 44 #[.int .i64 7, vv a, vv b] w fun e w' => e = .returned (.bool (decB 7 a b)) ∧ Grown w w' := by
  have hc := cmp_val a b
  have hd : decB 7 a b = decide (a.k = b.k ∧ a.k ≠ 0 ∧ cmpV a b < 0) := by simp [decB, leB]
  obtain ⟨k, n, s⟩ := a
  obtain ⟨k2, n2, s2⟩ := b
  simp only at hd
  generalize cmpV ⟨k, n, s⟩ ⟨k2, n2, s2⟩ = c at *
  have HC := Lib.hid hc
  clear hc
  by_cases h : k = k2
  · subst h
    by_cases h : k = 0
    · have H := Lib.hid (hd.trans (by simp [h]) : decB 7 ⟨k, n, s⟩ ⟨k, n2, s2⟩ = false)
      subst h
      clear hd
      go_enter Try.func44, Try.ntmps44
      go_wp2_with fail
      go_ret
      exact ⟨ret_bool H.out.symm, ((Grown.refl _).alloc _ _).alloc _ _⟩
    · have H := Lib.hid (hd.trans (by simp [h]) : decB 7 ⟨k, n, s⟩ ⟨k, n2, s2⟩ = decide (c < 0))
      clear hd
      go_enter Try.func44, Try.ntmps44
      go_wp2_with fail
      refine (HC.out _).mono ?_; rintro e w1 ⟨rfl, hg⟩
      go_wp2_with fail
      go_ret
      exact ⟨ret_bool (by rw [H.out]; simp [h]), (gro2 _ _ _ _ hg).2.2.2⟩
  · have H := Lib.hid (hd.trans (by simp [h]) : decB 7 ⟨k, n, s⟩ ⟨k2, n2, s2⟩ = false)
    have h' : (k == k2) = false := by simpa using h
    clear hd
    go_enter Try.func44, Try.ntmps44
    go_wp2_with fail
    go_ret
    exact ⟨ret_bool H.out.symm, ((Grown.refl _).alloc _ _).alloc _ _⟩
set_option maxHeartbeats 2000000 in
theorem dec_8 (a b : V) (w : World) : Calls Try.prog 44 #[.int .i64 8, vv a, vv b] w fun e w' => e = .returned (.bool (decB 8 a b)) ∧ Grown w w' := by
  have ha := tru_prg a
  have hb := tru_prg b
  have hd : decB 8 a b = (truB a && truB b) := by simp [decB]
  obtain ⟨k, n, s⟩ := a
  obtain ⟨k2, n2, s2⟩ := b
  cases h : truB ⟨k, n, s⟩ with
  | false =>
    rw [h] at ha hd
    have HA := Lib.hid ha
    have H := Lib.hid hd
    clear ha hb hd h
    go_enter Try.func44, Try.ntmps44
    go_wp2_with fail
    refine (HA.out _).mono ?_; rintro e w1 ⟨rfl, hg⟩
    go_wp2_with fail
    go_ret
    exact ⟨ret_bool (by rw [H.out]; rfl), (gro2 _ _ _ _ hg).2.2.2⟩
  | true =>
    rw [h] at ha hd
    have HA := Lib.hid ha
    have HB := Lib.hid hb
    have H := Lib.hid hd
    clear ha hb hd h
    go_enter Try.func44, Try.ntmps44
    go_wp2_with fail
    refine (HA.out _).mono ?_; rintro e w1 ⟨rfl, hg⟩
    obtain ⟨gc, gs, gs', gg⟩ := gro2 _ _ _ _ hg
    have b0 : w.heap.size + 1 < w.heap.size + 2 := by omega
    go_wp2_with fail
    refine (HB.out _).mono ?_; rintro e w2 ⟨rfl, hg2⟩
    go_wp2_with fail
    go_ret
    exact ⟨ret_bool (by rw [H.out]; rfl), grown_trans gg hg2⟩
set_option maxHeartbeats 2000000 in
theorem dec_9 (a b : V) (w : World) : Calls Try.prog 44 #[.int .i64 9, vv a, vv b] w fun e w' => e = .returned (.bool (decB 9 a b)) ∧ Grown w w' := by
  have ha := tru_prg a
  have hb := tru_prg b
  have hd : decB 9 a b = (truB a || truB b) := by simp [decB]
  obtain ⟨k, n, s⟩ := a
  obtain ⟨k2, n2, s2⟩ := b
  cases h : truB ⟨k, n, s⟩ with
  | true =>
    rw [h] at ha hd
    have HA := Lib.hid ha
    have H := Lib.hid hd
    clear ha hb hd h
    go_enter Try.func44, Try.ntmps44
    go_wp2_with fail
    refine (HA.out _).mono ?_; rintro e w1 ⟨rfl, hg⟩
    go_wp2_with fail
    go_ret
    exact ⟨ret_bool (by rw [H.out]; rfl), (gro2 _ _ _ _ hg).2.2.2⟩
  | false =>
    rw [h] at ha hd
    have HA := Lib.hid ha
    have HB := Lib.hid hb
    have H := Lib.hid hd
    clear ha hb hd h
    go_enter Try.func44, Try.ntmps44
    go_wp2_with fail
    refine (HA.out _).mono ?_; rintro e w1 ⟨rfl, hg⟩
    obtain ⟨gc, gs, gs', gg⟩ := gro2 _ _ _ _ hg
    have b0 : w.heap.size + 1 < w.heap.size + 2 := by omega
    go_wp2_with fail
    refine (HB.out _).mono ?_; rintro e w2 ⟨rfl, hg2⟩
    go_wp2_with fail
    go_ret
    exact ⟨ret_bool (by rw [H.out]; rfl), grown_trans gg hg2⟩
theorem dec_prg (op : Int) (ho : 6 ≤ op ∧ op ≤ 9) (a b : V) (w : World) : Calls Try.prog 44 #[.int .i64 op, vv a, vv b] w fun e w' => e = .returned (.bool (decB op a b)) ∧ Grown w w' := by
  rcases (show op = 6 ∨ op = 7 ∨ op = 8 ∨ op = 9 by omega) with rfl | rfl | rfl | rfl
  · exact dec_6 a b w
  · exact dec_7 a b w
  · exact dec_8 a b w
  · exact dec_9 a b w
set_option maxHeartbeats 4000000 in
theorem cal_prg (op : Int) (ho : 3 ≤ op ∧ op ≤ 5) (a b : V) (ha : okN a.n) (hb : okN b.n) (w : World) : Calls Try.prog 43 #[.int .i64 op, vv a, vv b] w fun e w' => e = .returned (vv (calV op a b)) ∧ Ext w w' := by
  have h3 := add_prg a.n b.n ha hb
  have h4 := sub_prg a.n b.n ha hb
  have h5 := mul_prg a.n b.n ha hb
  obtain ⟨k, n, s⟩ := a
  obtain ⟨k2, n2, s2⟩ := b
  simp only at h3 h4 h5
  clear ha hb
  by_cases h1 : k = 1
  case neg =>
    have H := Lib.hid (show calV op ⟨k, n, s⟩ ⟨k2, n2, s2⟩ = ⟨0, 0, []⟩ by unfold calV; rw [if_neg (fun e => h1 e.1)]; rfl)
    clear h3 h4 h5 ho
    go_enter Try.func43, Try.ntmps43
    go_wp2_with fail
    exact bodyPost_ret (v := vv ⟨0, 0, []⟩) (by simp [results, Try.results43, go_sem]) rfl ⟨ret_vv H.out.symm, by repeat (first | exact Ext.refl _ | refine Ext.alloc ?_ _ _ | refine Ext.setNew ?_ _ _ (by simp; try omega) _)⟩
  subst h1
  by_cases h2 : k2 = 1
  case neg =>
    have H := Lib.hid (show calV op ⟨1, n, s⟩ ⟨k2, n2, s2⟩ = ⟨0, 0, []⟩ by unfold calV; rw [if_neg (fun e => h2 e.2)]; rfl)
    clear h3 h4 h5 ho
    go_enter Try.func43, Try.ntmps43
    go_wp2_with fail
    exact bodyPost_ret (v := vv ⟨0, 0, []⟩) (by simp [results, Try.results43, go_sem]) rfl ⟨ret_vv H.out.symm, by repeat (first | exact Ext.refl _ | refine Ext.alloc ?_ _ _ | refine Ext.setNew ?_ _ _ (by simp; try omega) _)⟩
  subst h2
  have hcal : calV op ⟨1, n, s⟩ ⟨1, n2, s2⟩ = numV (resV op n n2) := by unfold calV; rw [if_pos ⟨rfl, rfl⟩]
  have hf : ∀ z : Int, fitB z = true → numV z = ⟨1, wrap64 z, []⟩ := fun z h => by unfold numV; rw [if_pos h, wrap_fit z h]
  have hg : ∀ z : Int, fitB z = false → numV z = ⟨0, 0, []⟩ := fun z h => by unfold numV; rw [if_neg (by rw [h]; decide)]; rfl
  rcases (show op = 3 ∨ op = 4 ∨ op = 5 by omega) with rfl | rfl | rfl
  · rw [show resV 3 n n2 = n + n2 from rfl] at hcal
    cases hz : fitB (n + n2) with
    | true =>
      have H := Lib.hid (hcal.trans (hf _ hz))
      rw [hz] at h3
      generalize wrap64 (n + n2) = z at *
      have HC := Lib.hid h3
      clear h3 h4 h5 ho hcal hf hg hz
      go_enter Try.func43, Try.ntmps43
      go_wp2_with fail
      refine (HC.out _).mono ?_; rintro e w1 ⟨rfl, rfl⟩
      go_wp2_with fail
      exact bodyPost_ret (v := vv ⟨1, z, []⟩) (by simp [results, Try.results43, go_sem]) rfl ⟨ret_vv H.out.symm, by repeat (first | exact Ext.refl _ | refine Ext.alloc ?_ _ _ | refine Ext.setNew ?_ _ _ (by simp; try omega) _)⟩
    | false =>
      have H := Lib.hid (hcal.trans (hg _ hz))
      rw [hz] at h3
      generalize wrap64 (n + n2) = z at *
      have HC := Lib.hid h3
      clear h3 h4 h5 ho hcal hf hg hz
      go_enter Try.func43, Try.ntmps43
      go_wp2_with fail
      refine (HC.out _).mono ?_; rintro e w1 ⟨rfl, rfl⟩
      go_wp2_with fail
      exact bodyPost_ret (v := vv ⟨0, 0, []⟩) (by simp [results, Try.results43, go_sem]) rfl ⟨ret_vv H.out.symm, by repeat (first | exact Ext.refl _ | refine Ext.alloc ?_ _ _ | refine Ext.setNew ?_ _ _ (by simp; try omega) _)⟩
  · rw [show resV 4 n n2 = n - n2 from rfl] at hcal
    cases hz : fitB (n - n2) with
    | true =>
      have H := Lib.hid (hcal.trans (hf _ hz))
      rw [hz] at h4
      generalize wrap64 (n - n2) = z at *
      have HC := Lib.hid h4
      clear h3 h4 h5 ho hcal hf hg hz
      go_enter Try.func43, Try.ntmps43
      go_wp2_with fail
      refine (HC.out _).mono ?_; rintro e w1 ⟨rfl, rfl⟩
      go_wp2_with fail
      exact bodyPost_ret (v := vv ⟨1, z, []⟩) (by simp [results, Try.results43, go_sem]) rfl ⟨ret_vv H.out.symm, by repeat (first | exact Ext.refl _ | refine Ext.alloc ?_ _ _ | refine Ext.setNew ?_ _ _ (by simp; try omega) _)⟩
    | false =>
      have H := Lib.hid (hcal.trans (hg _ hz))
      rw [hz] at h4
      generalize wrap64 (n - n2) = z at *
      have HC := Lib.hid h4
      clear h3 h4 h5 ho hcal hf hg hz
      go_enter Try.func43, Try.ntmps43
      go_wp2_with fail
      refine (HC.out _).mono ?_; rintro e w1 ⟨rfl, rfl⟩
      go_wp2_with fail
      exact bodyPost_ret (v := vv ⟨0, 0, []⟩) (by simp [results, Try.results43, go_sem]) rfl ⟨ret_vv H.out.symm, by repeat (first | exact Ext.refl _ | refine Ext.alloc ?_ _ _ | refine Ext.setNew ?_ _ _ (by simp; try omega) _)⟩
  · rw [show resV 5 n n2 = n * n2 from rfl] at hcal
    cases hz : fitB (n * n2) with
    | true =>
      have H := Lib.hid (hcal.trans (hf _ hz))
      rw [hz] at h5
      generalize wrap64 (n * n2) = z at *
      have HC := Lib.hid h5
      clear h3 h4 h5 ho hcal hf hg hz
      go_enter Try.func43, Try.ntmps43
      go_wp2_with fail
      refine (HC.out _).mono ?_; rintro e w1 ⟨rfl, rfl⟩
      go_wp2_with fail
      exact bodyPost_ret (v := vv ⟨1, z, []⟩) (by simp [results, Try.results43, go_sem]) rfl ⟨ret_vv H.out.symm, by repeat (first | exact Ext.refl _ | refine Ext.alloc ?_ _ _ | refine Ext.setNew ?_ _ _ (by simp; try omega) _)⟩
    | false =>
      have H := Lib.hid (hcal.trans (hg _ hz))
      rw [hz] at h5
      generalize wrap64 (n * n2) = z at *
      have HC := Lib.hid h5
      clear h3 h4 h5 ho hcal hf hg hz
      go_enter Try.func43, Try.ntmps43
      go_wp2_with fail
      refine (HC.out _).mono ?_; rintro e w1 ⟨rfl, rfl⟩
      go_wp2_with fail
      exact bodyPost_ret (v := vv ⟨0, 0, []⟩) (by simp [results, Try.results43, go_sem]) rfl ⟨ret_vv H.out.symm, by repeat (first | exact Ext.refl _ | refine Ext.alloc ?_ _ _ | refine Ext.setNew ?_ _ _ (by simp; try omega) _)⟩
end Go.Proofs.Ytdamlnfjhpmpmaa
