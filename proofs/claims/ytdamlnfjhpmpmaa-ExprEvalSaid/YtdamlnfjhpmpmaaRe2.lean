/- The reference's arithmetic, joined. -/
import Derived.Test.YtdamlnfjhpmpmaaRe1
namespace Go.Proofs.Ytdamlnfjhpmpmaa
open Go.ChangeShapes Go.WideShapes Go.ChangeAt Go.RowKit

theorem beq_no {a b : Int} (h : ¬ a = b) : (a == b) = false := by simpa using h
theorem beq_yes {a b : Int} (h : a = b) : (a == b) = true := by simpa using h
set_option maxHeartbeats 2000000 in
set_option maxRecDepth 100000 in
theorem calR_mul (n n2 : Int) (s s2 : List UInt8) (ha : okN n) (hb : okN n2) (w : World) : Calls Try.prog 48 #[.int .i64 5, vv ⟨1, n, s⟩, vv ⟨1, n2, s2⟩] w fun e w' => e = .returned (vv (calV 5 ⟨1, n, s⟩ ⟨1, n2, s2⟩)) ∧ Ext w w' := by
  rw [cal_num, show resV 5 n n2 = n * n2 from rfl]
  have hfit : fitB (n * n2) = true → numV (n * n2) = ⟨1, wrap64 (n * n2), []⟩ := num_fit _
  have hnot : fitB (n * n2) = false → numV (n * n2) = ⟨0, 0, []⟩ := num_not _
  by_cases h0 : n = 0
  · rw [hfit (by rw [h0, Int.zero_mul]; decide)]
    exact ari5_a n n2 s s2 w _ rfl (beq_yes h0)
  by_cases h1 : n2 = 0
  · rw [hfit (by rw [h1, Int.mul_zero]; decide)]
    exact ari5_b n n2 s s2 w _ rfl (beq_no h0) (beq_yes h1)
  by_cases h2 : n = 1
  · rw [hfit (by rw [h2, Int.one_mul, fitB_iff]; exact hb)]
    exact ari5_c n n2 s s2 w _ rfl (beq_no h0) (beq_no h1) (beq_yes h2)
  by_cases h3 : n2 = 1
  · rw [hfit (by rw [h3, Int.mul_one, fitB_iff]; exact ha)]
    exact ari5_d n n2 s s2 w _ rfl (beq_no h0) (beq_no h1) (beq_no h2) (beq_yes h3)
  have hf := fits_mul n n2 ha hb h1
  by_cases h4 : wrap64 ((wrap64 (n * n2)).tdiv n2) = n
  · by_cases h5 : n = -9223372036854775808 ∧ n2 = -1
    · have hz : fitB (n * n2) = false := by
        cases h : fitB (n * n2) with
        | false => rfl
        | true => exact absurd h5 (hf.2 h).2
      rw [hnot hz]
      exact ari5_j n n2 s s2 w _ rfl (beq_no h0) (beq_no h1) (beq_no h2) (beq_no h3) h1 (beq_yes h4) (beq_no (by omega)) (beq_yes h5.2) (beq_yes h5.1)
    · have hz : fitB (n * n2) = true := hf.1 ⟨h4, h5⟩
      rw [hfit hz]
      have hx : ¬ (n = -1 ∧ n2 = -9223372036854775808) := by
        rintro ⟨rfl, rfl⟩
        exact absurd hz (by decide)
      by_cases h6 : n = -1
      · by_cases h7 : n2 = -1
        · exact ari5_f n n2 s s2 w _ rfl (beq_no h0) (beq_no h1) (beq_no h2) (beq_no h3) h1 (beq_yes h4) (beq_yes h6) (beq_no (by omega)) (beq_yes h7) (beq_no (by omega))
        · exact ari5_h n n2 s s2 w _ rfl (beq_no h0) (beq_no h1) (beq_no h2) (beq_no h3) h1 (beq_yes h4) (beq_yes h6) (beq_no (fun e => hx ⟨h6, e⟩)) (beq_no h7)
      · by_cases h7 : n2 = -1
        · exact ari5_g n n2 s s2 w _ rfl (beq_no h0) (beq_no h1) (beq_no h2) (beq_no h3) h1 (beq_yes h4) (beq_no h6) (beq_yes h7) (beq_no (fun e => h5 ⟨e, h7⟩))
        · exact ari5_i n n2 s s2 w _ rfl (beq_no h0) (beq_no h1) (beq_no h2) (beq_no h3) h1 (beq_yes h4) (beq_no h6) (beq_no h7)
  · have hz : fitB (n * n2) = false := by
      cases h : fitB (n * n2) with
      | false => rfl
      | true => exact absurd (hf.2 h).1 h4
    rw [hnot hz]
    exact ari5_e n n2 s s2 w _ rfl (beq_no h0) (beq_no h1) (beq_no h2) (beq_no h3) h1 (beq_no h4)
theorem calR_add (n n2 : Int) (s s2 : List UInt8) (ha : okN n) (hb : okN n2) (w : World) : Calls Try.prog 48 #[.int .i64 3, vv ⟨1, n, s⟩, vv ⟨1, n2, s2⟩] w fun e w' => e = .returned (vv (calV 3 ⟨1, n, s⟩ ⟨1, n2, s2⟩)) ∧ Ext w w' := by
  rw [cal_num, show resV 3 n n2 = n + n2 from rfl]
  have hf := fits_add n n2 ha hb
  cases hz : fitB (n + n2) with
  | true => rw [num_fit _ hz]; rw [hz] at hf; exact ari3_true n n2 s s2 w _ rfl hf
  | false => rw [num_not _ hz]; rw [hz] at hf; exact ari3_false n n2 s s2 w _ rfl hf
theorem calR_sub (n n2 : Int) (s s2 : List UInt8) (ha : okN n) (hb : okN n2) (w : World) : Calls Try.prog 48 #[.int .i64 4, vv ⟨1, n, s⟩, vv ⟨1, n2, s2⟩] w fun e w' => e = .returned (vv (calV 4 ⟨1, n, s⟩ ⟨1, n2, s2⟩)) ∧ Ext w w' := by
  rw [cal_num, show resV 4 n n2 = n - n2 from rfl]
  have hf := fits_sub n n2 ha hb
  cases hz : fitB (n - n2) with
  | true => rw [num_fit _ hz]; rw [hz] at hf; exact ari4_true n n2 s s2 w _ rfl hf
  | false => rw [num_not _ hz]; rw [hz] at hf; exact ari4_false n n2 s s2 w _ rfl hf
set_option maxHeartbeats 2000000 in
set_option maxRecDepth 100000 in
theorem cal_ref (op : Int) (ho : 3 ≤ op ∧ op ≤ 5) (a b : V) (ha : okN a.n) (hb : okN b.n) (w : World) : Calls Try.prog 48 #[.int .i64 op, vv a, vv b] w fun e w' => e = .returned (vv (calV op a b)) ∧ Ext w w' := by
  obtain ⟨k, n, s⟩ := a
  obtain ⟨k2, n2, s2⟩ := b
  simp only at ha hb
  by_cases h1 : k = 1
  case neg =>
    have H := Lib.hid (show calV op ⟨k, n, s⟩ ⟨k2, n2, s2⟩ = ⟨0, 0, []⟩ by unfold calV; rw [if_neg (fun e => h1 e.1)]; rfl)
    clear ho ha hb
    go_enter Try.func48, Try.ntmps48
    go_wp2_with fail
    exact bodyPost_ret (v := vv ⟨0, 0, []⟩) (by simp [results, Try.results48, go_sem]) rfl ⟨ret_vv H.out.symm, by repeat (first | exact Ext.refl _ | refine Ext.alloc ?_ _ _ | refine Ext.setNew ?_ _ _ (by simp; try omega) _)⟩
  subst h1
  by_cases h2 : k2 = 1
  case neg =>
    have H := Lib.hid (show calV op ⟨1, n, s⟩ ⟨k2, n2, s2⟩ = ⟨0, 0, []⟩ by unfold calV; rw [if_neg (fun e => h2 e.2)]; rfl)
    clear ho ha hb
    go_enter Try.func48, Try.ntmps48
    go_wp2_with fail
    exact bodyPost_ret (v := vv ⟨0, 0, []⟩) (by simp [results, Try.results48, go_sem]) rfl ⟨ret_vv H.out.symm, by repeat (first | exact Ext.refl _ | refine Ext.alloc ?_ _ _ | refine Ext.setNew ?_ _ _ (by simp; try omega) _)⟩
  subst h2
  rcases (show op = 3 ∨ op = 4 ∨ op = 5 by omega) with rfl | rfl | rfl
  · exact calR_add n n2 s s2 ha hb w
  · exact calR_sub n n2 s s2 ha hb w
  · exact calR_mul n n2 s s2 ha hb w
end Go.Proofs.Ytdamlnfjhpmpmaa
