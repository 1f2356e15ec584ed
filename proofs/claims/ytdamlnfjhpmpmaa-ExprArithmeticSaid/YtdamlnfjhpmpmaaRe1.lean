/- The reference's arithmetic. -/
import Derived.Test.YtdamlnfjhpmpmaaEv2
namespace Go.Proofs.Ytdamlnfjhpmpmaa
open Go.ChangeShapes Go.WideShapes Go.ChangeAt Go.RowKit

theorem ext_drewN {w X : World} (h : Ext w X) (n : Nat) : Ext w (X.drewN n) := ⟨h.1, h.2.1, h.2.2⟩
theorem three_set (w : World) (a b c : Array Value) (t u v : TypeId) (n : Nat) (x y z : Value) : Ext w ((((((((w.alloc (.cells a t)).alloc (.cells b u)).alloc (.cells c v)).drewN n).setCell ⟨w.heap.size + 1 + 1, 0, none⟩ x).setCell ⟨w.heap.size + 1 + 1, 1, none⟩ y)).setCell ⟨w.heap.size + 1 + 1, 2, none⟩ z) :=
  (((ext_drewN ((((Ext.refl w).alloc _ _).alloc _ _).alloc _ _) n).setNew _ _ (by omega) x).setNew _ _ (by omega) y).setNew _ _ (by omega) z
theorem num_fit (z : Int) (h : fitB z = true) : numV z = ⟨1, wrap64 z, []⟩ := by unfold numV; rw [if_pos h, wrap_fit z h]
theorem num_not (z : Int) (h : fitB z = false) : numV z = ⟨0, 0, []⟩ := by unfold numV; rw [if_neg (by rw [h]; decide)]; rfl
theorem cal_num (op : Int) (n n2 : Int) (s s2 : List UInt8) : calV op ⟨1, n, s⟩ ⟨1, n2, s2⟩ = numV (resV op n n2) := by unfold calV; rw [if_pos ⟨rfl, rfl⟩]
set_option maxHeartbeats 2000000 in
set_option maxRecDepth 100000 in
theorem ari3_true (n n2 : Int) (s s2 : List UInt8) (w : World) (z : Int) (hz : wrap64 (n + n2) = z) (hok : (decide (n < z) == decide (0 < n2)) = true) : Calls Try.prog 48 #[.int .i64 3, vv ⟨1, n, s⟩, vv ⟨1, n2, s2⟩] w fun e w' => e = .returned (vv ⟨1, z, []⟩) ∧ Ext w w' := by
  skip
  go_enter Try.func48, Try.ntmps48
  go_wp2_with fail
  go_quiet (fail)
  go_wp2_with fail
  all_goals (try simp only [Exit.inBlock, Exit.then])
  exact bodyPost_ret (v := vv ⟨1, z, []⟩) (by simp [results, Try.results48, go_sem]) rfl ⟨ret_vv rfl, three_set w _ _ _ _ _ _ _ _ _ _⟩
set_option maxHeartbeats 2000000 in
set_option maxRecDepth 100000 in
theorem ari3_false (n n2 : Int) (s s2 : List UInt8) (w : World) (z : Int) (hz : wrap64 (n + n2) = z) (hok : (decide (n < z) == decide (0 < n2)) = false) : Calls Try.prog 48 #[.int .i64 3, vv ⟨1, n, s⟩, vv ⟨1, n2, s2⟩] w fun e w' => e = .returned (vv ⟨0, 0, []⟩) ∧ Ext w w' := by
  skip
  go_enter Try.func48, Try.ntmps48
  go_wp2_with fail
  go_quiet (fail)
  go_wp2_with fail
  all_goals (try simp only [Exit.inBlock, Exit.then])
  exact bodyPost_ret (v := vv ⟨0, 0, []⟩) (by simp [results, Try.results48, go_sem]) rfl ⟨ret_vv rfl, three_set w _ _ _ _ _ _ _ _ _ _⟩
set_option maxHeartbeats 2000000 in
set_option maxRecDepth 100000 in
theorem ari4_true (n n2 : Int) (s s2 : List UInt8) (w : World) (z : Int) (hz : wrap64 (n - n2) = z) (hok : (decide (z < n) == decide (0 < n2)) = true) : Calls Try.prog 48 #[.int .i64 4, vv ⟨1, n, s⟩, vv ⟨1, n2, s2⟩] w fun e w' => e = .returned (vv ⟨1, z, []⟩) ∧ Ext w w' := by
  skip
  go_enter Try.func48, Try.ntmps48
  go_wp2_with fail
  go_quiet (fail)
  go_wp2_with fail
  all_goals (try simp only [Exit.inBlock, Exit.then])
  exact bodyPost_ret (v := vv ⟨1, z, []⟩) (by simp [results, Try.results48, go_sem]) rfl ⟨ret_vv rfl, three_set w _ _ _ _ _ _ _ _ _ _⟩
set_option maxHeartbeats 2000000 in
set_option maxRecDepth 100000 in
theorem ari4_false (n n2 : Int) (s s2 : List UInt8) (w : World) (z : Int) (hz : wrap64 (n - n2) = z) (hok : (decide (z < n) == decide (0 < n2)) = false) : Calls Try.prog 48 #[.int .i64 4, vv ⟨1, n, s⟩, vv ⟨1, n2, s2⟩] w fun e w' => e = .returned (vv ⟨0, 0, []⟩) ∧ Ext w w' := by
  skip
  go_enter Try.func48, Try.ntmps48
  go_wp2_with fail
  go_quiet (fail)
  go_wp2_with fail
  all_goals (try simp only [Exit.inBlock, Exit.then])
  exact bodyPost_ret (v := vv ⟨0, 0, []⟩) (by simp [results, Try.results48, go_sem]) rfl ⟨ret_vv rfl, three_set w _ _ _ _ _ _ _ _ _ _⟩
set_option maxHeartbeats 2000000 in
set_option maxRecDepth 100000 in
theorem ari5_a (n n2 : Int) (s s2 : List UInt8) (w : World) (z : Int) (hz : wrap64 (n * n2) = z) (b0 : (n == 0) = true) : Calls Try.prog 48 #[.int .i64 5, vv ⟨1, n, s⟩, vv ⟨1, n2, s2⟩] w fun e w' => e = .returned (vv ⟨1, z, []⟩) ∧ Ext w w' := by
  skip
  go_enter Try.func48, Try.ntmps48
  go_wp2_with fail
  go_quiet (fail)
  go_wp2_with fail
  all_goals (try simp only [Exit.inBlock, Exit.then])
  exact bodyPost_ret (v := vv ⟨1, z, []⟩) (by simp [results, Try.results48, go_sem]) rfl ⟨ret_vv rfl, three_set w _ _ _ _ _ _ _ _ _ _⟩
set_option maxHeartbeats 2000000 in
set_option maxRecDepth 100000 in
theorem ari5_b (n n2 : Int) (s s2 : List UInt8) (w : World) (z : Int) (hz : wrap64 (n * n2) = z) (b0 : (n == 0) = false) (b1 : (n2 == 0) = true) : Calls Try.prog 48 #[.int .i64 5, vv ⟨1, n, s⟩, vv ⟨1, n2, s2⟩] w fun e w' => e = .returned (vv ⟨1, z, []⟩) ∧ Ext w w' := by
  skip
  go_enter Try.func48, Try.ntmps48
  go_wp2_with fail
  go_quiet (fail)
  go_wp2_with fail
  all_goals (try simp only [Exit.inBlock, Exit.then])
  exact bodyPost_ret (v := vv ⟨1, z, []⟩) (by simp [results, Try.results48, go_sem]) rfl ⟨ret_vv rfl, three_set w _ _ _ _ _ _ _ _ _ _⟩
set_option maxHeartbeats 2000000 in
set_option maxRecDepth 100000 in
theorem ari5_c (n n2 : Int) (s s2 : List UInt8) (w : World) (z : Int) (hz : wrap64 (n * n2) = z) (b0 : (n == 0) = false) (b1 : (n2 == 0) = false) (b2 : (n == 1) = true) : Calls Try.prog 48 #[.int .i64 5, vv ⟨1, n, s⟩, vv ⟨1, n2, s2⟩] w fun e w' => e = .returned (vv ⟨1, z, []⟩) ∧ Ext w w' := by
  skip
  go_enter Try.func48, Try.ntmps48
  go_wp2_with fail
  go_quiet (fail)
  go_wp2_with fail
  all_goals (try simp only [Exit.inBlock, Exit.then])
  exact bodyPost_ret (v := vv ⟨1, z, []⟩) (by simp [results, Try.results48, go_sem]) rfl ⟨ret_vv rfl, three_set w _ _ _ _ _ _ _ _ _ _⟩
set_option maxHeartbeats 2000000 in
set_option maxRecDepth 100000 in
theorem ari5_d (n n2 : Int) (s s2 : List UInt8) (w : World) (z : Int) (hz : wrap64 (n * n2) = z) (b0 : (n == 0) = false) (b1 : (n2 == 0) = false) (b2 : (n == 1) = false) (b3 : (n2 == 1) = true) : Calls Try.prog 48 #[.int .i64 5, vv ⟨1, n, s⟩, vv ⟨1, n2, s2⟩] w fun e w' => e = .returned (vv ⟨1, z, []⟩) ∧ Ext w w' := by
  skip
  go_enter Try.func48, Try.ntmps48
  go_wp2_with fail
  go_quiet (fail)
  go_wp2_with fail
  all_goals (try simp only [Exit.inBlock, Exit.then])
  exact bodyPost_ret (v := vv ⟨1, z, []⟩) (by simp [results, Try.results48, go_sem]) rfl ⟨ret_vv rfl, three_set w _ _ _ _ _ _ _ _ _ _⟩
set_option maxHeartbeats 2000000 in
set_option maxRecDepth 100000 in
theorem ari5_e (n n2 : Int) (s s2 : List UInt8) (w : World) (z : Int) (hz : wrap64 (n * n2) = z) (b0 : (n == 0) = false) (b1 : (n2 == 0) = false) (b2 : (n == 1) = false) (b3 : (n2 == 1) = false) (h0 : ¬ n2 = 0) (h1 : (wrap64 (z.tdiv n2) == n) = false) : Calls Try.prog 48 #[.int .i64 5, vv ⟨1, n, s⟩, vv ⟨1, n2, s2⟩] w fun e w' => e = .returned (vv ⟨0, 0, []⟩) ∧ Ext w w' := by
  skip
  go_enter Try.func48, Try.ntmps48
  go_wp2_with fail
  go_quiet (fail)
  go_wp2_with fail
  all_goals (try simp only [Exit.inBlock, Exit.then])
  exact bodyPost_ret (v := vv ⟨0, 0, []⟩) (by simp [results, Try.results48, go_sem]) rfl ⟨ret_vv rfl, three_set w _ _ _ _ _ _ _ _ _ _⟩
set_option maxHeartbeats 2000000 in
set_option maxRecDepth 100000 in
theorem ari5_f (n n2 : Int) (s s2 : List UInt8) (w : World) (z : Int) (hz : wrap64 (n * n2) = z) (b0 : (n == 0) = false) (b1 : (n2 == 0) = false) (b2 : (n == 1) = false) (b3 : (n2 == 1) = false) (h0 : ¬ n2 = 0) (h1 : (wrap64 (z.tdiv n2) == n) = true) (h2 : (n == -1) = true) (h3 : (n2 == -9223372036854775808) = false) (h4 : (n2 == -1) = true) (h5 : (n == -9223372036854775808) = false) : Calls Try.prog 48 #[.int .i64 5, vv ⟨1, n, s⟩, vv ⟨1, n2, s2⟩] w fun e w' => e = .returned (vv ⟨1, z, []⟩) ∧ Ext w w' := by
  skip
  go_enter Try.func48, Try.ntmps48
  go_wp2_with fail
  go_quiet (fail)
  go_wp2_with fail
  all_goals (try simp only [Exit.inBlock, Exit.then])
  exact bodyPost_ret (v := vv ⟨1, z, []⟩) (by simp [results, Try.results48, go_sem]) rfl ⟨ret_vv rfl, three_set w _ _ _ _ _ _ _ _ _ _⟩
set_option maxHeartbeats 2000000 in
set_option maxRecDepth 100000 in
theorem ari5_g (n n2 : Int) (s s2 : List UInt8) (w : World) (z : Int) (hz : wrap64 (n * n2) = z) (b0 : (n == 0) = false) (b1 : (n2 == 0) = false) (b2 : (n == 1) = false) (b3 : (n2 == 1) = false) (h0 : ¬ n2 = 0) (h1 : (wrap64 (z.tdiv n2) == n) = true) (h2 : (n == -1) = false) (h4 : (n2 == -1) = true) (h5 : (n == -9223372036854775808) = false) : Calls Try.prog 48 #[.int .i64 5, vv ⟨1, n, s⟩, vv ⟨1, n2, s2⟩] w fun e w' => e = .returned (vv ⟨1, z, []⟩) ∧ Ext w w' := by
  skip
  go_enter Try.func48, Try.ntmps48
  go_wp2_with fail
  go_quiet (fail)
  go_wp2_with fail
  all_goals (try simp only [Exit.inBlock, Exit.then])
  exact bodyPost_ret (v := vv ⟨1, z, []⟩) (by simp [results, Try.results48, go_sem]) rfl ⟨ret_vv rfl, three_set w _ _ _ _ _ _ _ _ _ _⟩
set_option maxHeartbeats 2000000 in
set_option maxRecDepth 100000 in
theorem ari5_h (n n2 : Int) (s s2 : List UInt8) (w : World) (z : Int) (hz : wrap64 (n * n2) = z) (b0 : (n == 0) = false) (b1 : (n2 == 0) = false) (b2 : (n == 1) = false) (b3 : (n2 == 1) = false) (h0 : ¬ n2 = 0) (h1 : (wrap64 (z.tdiv n2) == n) = true) (h2 : (n == -1) = true) (h3 : (n2 == -9223372036854775808) = false) (h4 : (n2 == -1) = false) : Calls Try.prog 48 #[.int .i64 5, vv ⟨1, n, s⟩, vv ⟨1, n2, s2⟩] w fun e w' => e = .returned (vv ⟨1, z, []⟩) ∧ Ext w w' := by
  skip
  go_enter Try.func48, Try.ntmps48
  go_wp2_with fail
  go_quiet (fail)
  go_wp2_with fail
  all_goals (try simp only [Exit.inBlock, Exit.then])
  exact bodyPost_ret (v := vv ⟨1, z, []⟩) (by simp [results, Try.results48, go_sem]) rfl ⟨ret_vv rfl, three_set w _ _ _ _ _ _ _ _ _ _⟩
set_option maxHeartbeats 2000000 in
set_option maxRecDepth 100000 in
theorem ari5_i (n n2 : Int) (s s2 : List UInt8) (w : World) (z : Int) (hz : wrap64 (n * n2) = z) (b0 : (n == 0) = false) (b1 : (n2 == 0) = false) (b2 : (n == 1) = false) (b3 : (n2 == 1) = false) (h0 : ¬ n2 = 0) (h1 : (wrap64 (z.tdiv n2) == n) = true) (h2 : (n == -1) = false) (h4 : (n2 == -1) = false) : Calls Try.prog 48 #[.int .i64 5, vv ⟨1, n, s⟩, vv ⟨1, n2, s2⟩] w fun e w' => e = .returned (vv ⟨1, z, []⟩) ∧ Ext w w' := by
  skip
  go_enter Try.func48, Try.ntmps48
  go_wp2_with fail
  go_quiet (fail)
  go_wp2_with fail
  all_goals (try simp only [Exit.inBlock, Exit.then])
  exact bodyPost_ret (v := vv ⟨1, z, []⟩) (by simp [results, Try.results48, go_sem]) rfl ⟨ret_vv rfl, three_set w _ _ _ _ _ _ _ _ _ _⟩
set_option maxHeartbeats 2000000 in
set_option maxRecDepth 100000 in
theorem ari5_j (n n2 : Int) (s s2 : List UInt8) (w : World) (z : Int) (hz : wrap64 (n * n2) = z) (b0 : (n == 0) = false) (b1 : (n2 == 0) = false) (b2 : (n == 1) = false) (b3 : (n2 == 1) = false) (h0 : ¬ n2 = 0) (h1 : (wrap64 (z.tdiv n2) == n) = true) (h2 : (n == -1) = false) (h4 : (n2 == -1) = true) (h5 : (n == -9223372036854775808) = true) : Calls Try.prog 48 #[.int .i64 5, vv ⟨1, n, s⟩, vv ⟨1, n2, s2⟩] w fun e w' => e = .returned (vv ⟨0, 0, []⟩) ∧ Ext w w' := by
  skip
  go_enter Try.func48, Try.ntmps48
  go_wp2_with fail
  go_quiet (fail)
  go_wp2_with fail
  all_goals (try simp only [Exit.inBlock, Exit.then])
  exact bodyPost_ret (v := vv ⟨0, 0, []⟩) (by simp [results, Try.results48, go_sem]) rfl ⟨ret_vv rfl, three_set w _ _ _ _ _ _ _ _ _ _⟩
end Go.Proofs.Ytdamlnfjhpmpmaa
