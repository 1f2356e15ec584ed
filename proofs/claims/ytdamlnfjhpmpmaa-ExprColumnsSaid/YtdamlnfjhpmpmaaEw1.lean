/- Small functions of the program: operators, indexes, legal operands, types. -/
import Derived.Test.YtdamlnfjhpmpmaaVw1
import Derived.Test.YtdamlnfjhpmpmaaEx
namespace Go.Proofs.Ytdamlnfjhpmpmaa
open Go.ChangeShapes Go.WideShapes Go.ChangeAt Go.RowKit

abbrev xv (x : X) : Value := .agg #[.int .i64 x.op, .int .i64 x.a, .int .i64 x.b, .int .i64 x.col, .int .i64 x.c.k, .int .i64 x.c.n, sv x.c.s]
abbrev kv (p : Int × Int) : Value := .agg #[.int .i64 p.1, .int .i64 p.2]
theorem opc (op : Int) : op = 1 ∨ op = 2 ∨ op = 3 ∨ op = 4 ∨ op = 5 ∨ op = 6 ∨ op = 7 ∨ op = 8 ∨ op = 9 ∨ op = 10 ∨ op = 11 ∨
    (op ≠ 1 ∧ op ≠ 2 ∧ op ≠ 3 ∧ op ≠ 4 ∧ op ≠ 5 ∧ op ≠ 6 ∧ op ≠ 7 ∧ op ≠ 8 ∧ op ≠ 9 ∧ op ≠ 10 ∧ op ≠ 11) := by omega
theorem ari_none (op : Int) (h1 : op ≠ 1) (h2 : op ≠ 2) (h3 : op ≠ 3) (h4 : op ≠ 4) (h5 : op ≠ 5) (h6 : op ≠ 6) (h7 : op ≠ 7) (h8 : op ≠ 8) (h9 : op ≠ 9) (h10 : op ≠ 10) (h11 : op ≠ 11) : ari op = -1 := by
  unfold ari; rw [if_neg (by omega), if_neg (by omega), if_neg (by omega)]
set_option maxHeartbeats 1000000 in
theorem ari_prg (op : Int) (w : World) : Calls Try.prog 31 #[.int .i64 op] w fun e w' => e = .returned (.int .i64 (ari op)) ∧ w = w' := by
  rcases opc op with rfl | rfl | rfl | rfl | rfl | rfl | rfl | rfl | rfl | rfl | rfl | ⟨h1, h2, h3, h4, h5, h6, h7, h8, h9, h10, h11⟩
  case inr.inr.inr.inr.inr.inr.inr.inr.inr.inr.inr =>
    have H := Lib.hid (ari_none op h1 h2 h3 h4 h5 h6 h7 h8 h9 h10 h11)
    go_enter Try.func31, Try.ntmps31
    go_wp2
    go_ret
    exact ⟨ret_int H.out.symm, rfl⟩
  all_goals
    go_enter Try.func31, Try.ntmps31
    go_wp2
    go_ret
    exact ⟨ret_int (by decide), rfl⟩
set_option maxHeartbeats 1000000 in
theorem ari_ref (op : Int) (w : World) : Calls Try.prog 29 #[.int .i64 op] w fun e w' => e = .returned (.int .i64 (ari op)) ∧ w = w' := by
  rcases opc op with rfl | rfl | rfl | rfl | rfl | rfl | rfl | rfl | rfl | rfl | rfl | ⟨h1, h2, h3, h4, h5, h6, h7, h8, h9, h10, h11⟩
  case inr.inr.inr.inr.inr.inr.inr.inr.inr.inr.inr =>
    have H := Lib.hid (ari_none op h1 h2 h3 h4 h5 h6 h7 h8 h9 h10 h11)
    go_enter Try.func29, Try.ntmps29
    go_wp2
    go_ret
    exact ⟨ret_int H.out.symm, rfl⟩
  all_goals
    go_enter Try.func29, Try.ntmps29
    go_wp2
    go_ret
    exact ⟨ret_int (by decide), rfl⟩
theorem isx_prg (i n : Int) (w : World) : Calls Try.prog 21 #[.int .i64 i, .int .i64 n] w fun e w' => e = .returned (.bool (isIx i n)) ∧ w = w' := by
  by_cases h0 : 0 ≤ i
  · by_cases h1 : i < n
    · have H := Lib.hid (show isIx i n = true by rw [isIx_iff]; exact ⟨h0, h1⟩)
      go_enter Try.func21, Try.ntmps21
      go_wp2
      go_ret
      exact ⟨ret_bool H.out.symm, rfl⟩
    · have H := Lib.hid (show isIx i n = false by rw [isIx_no]; omega)
      go_enter Try.func21, Try.ntmps21
      go_wp2
      go_ret
      exact ⟨ret_bool H.out.symm, rfl⟩
  · have H := Lib.hid (show isIx i n = false by rw [isIx_no]; omega)
    go_enter Try.func21, Try.ntmps21
    go_wp2
    go_ret
    exact ⟨ret_bool H.out.symm, rfl⟩
theorem acc_prg (want k : Int) (w : World) : Calls Try.prog 51 #[.int .i64 want, .int .i64 k] w fun e w' => e = .returned (.bool (accB want k)) ∧ w = w' := by
  by_cases h0 : k = want
  · have H := Lib.hid (show accB want k = true by simp [accB, h0])
    subst h0
    go_enter Try.func51, Try.ntmps51
    go_wp2
    go_ret
    exact ⟨ret_bool H.out.symm, rfl⟩
  · by_cases h1 : k = 0
    · have H := Lib.hid (show accB want k = true by simp [accB, h1])
      subst h1
      go_enter Try.func51, Try.ntmps51
      go_wp2
      go_ret
      exact ⟨ret_bool H.out.symm, rfl⟩
    · have H := Lib.hid (show accB want k = false by simp [accB, h0, h1])
      go_enter Try.func51, Try.ntmps51
      go_wp2
      go_ret
      exact ⟨ret_bool (by rw [H.out]; simp [h0, h1]), rfl⟩
theorem fits_ref (k want : Int) (w : World) : Calls Try.prog 38 #[.int .i64 k, .int .i64 want] w fun e w' => e = .returned (.bool (accB want k)) ∧ w = w' := by
  by_cases h0 : k = want
  · have H := Lib.hid (show accB want k = true by simp [accB, h0])
    subst h0
    go_enter Try.func38, Try.ntmps38
    go_wp2
    go_ret
    exact ⟨ret_bool H.out.symm, rfl⟩
  · by_cases h1 : k = 0
    · have H := Lib.hid (show accB want k = true by simp [accB, h1])
      subst h1
      go_enter Try.func38, Try.ntmps38
      go_wp2
      go_ret
      exact ⟨ret_bool H.out.symm, rfl⟩
    · have H := Lib.hid (show accB want k = false by simp [accB, h0, h1])
      go_enter Try.func38, Try.ntmps38
      go_wp2
      go_ret
      exact ⟨ret_bool (by rw [H.out]; simp [h0, h1]), rfl⟩
set_option maxHeartbeats 1000000 in
theorem lgA_prg (x : X) (i : Int) (w : World) : Calls Try.prog 39 #[xv x, .int .i64 i] w fun e w' => e = .returned (.bool (lgA x i)) ∧ Grown w w' := by
  obtain ⟨op, a, b, col, ⟨k, n, s⟩⟩ := x
  have hA := ari_prg op
  have hI := isx_prg a i
  have hv := ari_vals op
  by_cases h : 1 ≤ ari op
  · have H := Lib.hid (show lgA ⟨op, a, b, col, ⟨k, n, s⟩⟩ i = isIx a i by simp [lgA, h])
    generalize ari op = r at *
    have HA := Lib.hid hA
    have HI := Lib.hid hI
    clear hA hI hv
    go_enter Try.func39, Try.ntmps39
    go_wp2_with fail
    refine (HA.out _).mono ?_; rintro e w1 ⟨rfl, rfl⟩
    go_wp2_with fail
    refine (HI.out _).mono ?_; rintro e w1 ⟨rfl, rfl⟩
    go_wp2_with fail
    go_ret
    exact ⟨ret_bool H.out.symm, (Grown.refl _).alloc _ _⟩
  · have H := Lib.hid (show lgA ⟨op, a, b, col, ⟨k, n, s⟩⟩ i = false by simp [lgA, h])
    generalize ari op = r at *
    have HA := Lib.hid hA
    clear hA hI hv
    go_enter Try.func39, Try.ntmps39
    go_wp2_with fail
    refine (HA.out _).mono ?_; rintro e w1 ⟨rfl, rfl⟩
    go_wp2_with fail
    go_ret
    exact ⟨ret_bool H.out.symm, (Grown.refl _).alloc _ _⟩
set_option maxHeartbeats 1000000 in
theorem lgB_prg (x : X) (i : Int) (w : World) : Calls Try.prog 40 #[xv x, .int .i64 i] w fun e w' => e = .returned (.bool (lgB x i)) ∧ Grown w w' := by
  obtain ⟨op, a, b, col, ⟨k, n, s⟩⟩ := x
  have hA := ari_prg op
  have hI := isx_prg b i
  by_cases h : ari op = 2
  · have H := Lib.hid (show lgB ⟨op, a, b, col, ⟨k, n, s⟩⟩ i = isIx b i by simp [lgB, h])
    rw [h] at hA
    have HA := Lib.hid hA
    have HI := Lib.hid hI
    clear hA hI h
    go_enter Try.func40, Try.ntmps40
    go_wp2_with fail
    refine (HA.out _).mono ?_; rintro e w1 ⟨rfl, rfl⟩
    go_wp2_with fail
    refine (HI.out _).mono ?_; rintro e w1 ⟨rfl, rfl⟩
    go_wp2_with fail
    go_ret
    exact ⟨ret_bool H.out.symm, (Grown.refl _).alloc _ _⟩
  · have H := Lib.hid (show lgB ⟨op, a, b, col, ⟨k, n, s⟩⟩ i = false by simp [lgB, h])
    generalize ari op = r at *
    have HA := Lib.hid hA
    clear hA hI
    go_enter Try.func40, Try.ntmps40
    go_wp2_with fail
    refine (HA.out _).mono ?_; rintro e w1 ⟨rfl, rfl⟩
    go_wp2_with fail
    go_ret
    exact ⟨ret_bool H.out.symm, (Grown.refl _).alloc _ _⟩
theorem lgl_one {x : X} {i : Int} (h : ari x.op = 1) : lgl x i = lgA x i := by simp [lgl, lgA, h]
theorem lgl_two {x : X} {i : Int} (h : ari x.op = 2) : lgl x i = (lgA x i && lgB x i) := by simp [lgl, lgA, lgB, h]
theorem lgl_none {x : X} {i : Int} (h : ari x.op < 1) : lgl x i = true := by simp [lgl]; omega
set_option maxHeartbeats 2000000 in
theorem lgl_prg (x : X) (i : Int) (w : World) : Calls Try.prog 33 #[xv x, .int .i64 i] w fun e w' => e = .returned (.bool (lgl x i)) ∧ Grown w w' := by
  have hv := ari_vals x.op
  have hA := ari_prg x.op
  have hLA := lgA_prg x i
  have hLB := lgB_prg x i
  have h1 := @lgl_one x i
  have h2 := @lgl_two x i
  have h0 := @lgl_none x i
  obtain ⟨op, a, b, col, ⟨k, n, s⟩⟩ := x
  simp only at hv hA h0 h1 h2
  have HLA := Lib.hid hLA
  have HLB := Lib.hid hLB
  clear hLA hLB
  rcases hv with h | h | h | h
  · rw [h] at hA
    have HA := Lib.hid hA
    have H := Lib.hid (h0 (by omega))
    clear hA h h0 h1 h2
    go_enter Try.func33, Try.ntmps33
    go_wp2_with fail
    refine (HA.out _).mono ?_; rintro e w1 ⟨rfl, rfl⟩
    go_wp2_with fail
    go_ret
    exact ⟨ret_bool H.out.symm, (Grown.refl _).alloc _ _⟩
  · rw [h] at hA
    have HA := Lib.hid hA
    have H := Lib.hid (h0 (by omega))
    clear hA h h0 h1 h2
    go_enter Try.func33, Try.ntmps33
    go_wp2_with fail
    refine (HA.out _).mono ?_; rintro e w1 ⟨rfl, rfl⟩
    go_wp2_with fail
    go_ret
    exact ⟨ret_bool H.out.symm, (Grown.refl _).alloc _ _⟩
  · rw [h] at hA
    have HA := Lib.hid hA
    have H := Lib.hid (h1 h)
    clear hA h h0 h1 h2
    go_enter Try.func33, Try.ntmps33
    go_wp2_with fail
    refine (HA.out _).mono ?_; rintro e w1 ⟨rfl, rfl⟩
    go_wp2_with fail
    refine (HLA.out _).mono ?_; rintro e w1 ⟨rfl, hg⟩
    go_wp2_with fail
    go_ret
    exact ⟨ret_bool H.out.symm, grown_trans ((Grown.refl _).alloc _ _) hg⟩
  · rw [h] at hA
    have HA := Lib.hid hA
    have H := Lib.hid (h2 h)
    clear hA h h0 h1 h2
    go_enter Try.func33, Try.ntmps33
    go_wp2_with fail
    refine (HA.out _).mono ?_; rintro e w1 ⟨rfl, rfl⟩
    cases hl : lgA ⟨op, a, b, col, ⟨k, n, s⟩⟩ i with
    | false =>
      have HLA' := Lib.hid (hl ▸ HLA.out)
      rw [hl] at H
      clear hl
      go_wp2_with fail
      refine (HLA'.out _).mono ?_; rintro e w1 ⟨rfl, hg⟩
      go_wp2_with fail
      go_ret
      exact ⟨ret_bool H.out.symm, grown_trans ((Grown.refl _).alloc _ _) hg⟩
    | true =>
      have HLA' := Lib.hid (hl ▸ HLA.out)
      rw [hl] at H
      clear hl
      go_wp2_with fail
      refine (HLA'.out _).mono ?_; rintro e w2 ⟨rfl, hg⟩
      obtain ⟨hc, hf⟩ := gcell hg
      have hs : w.heap.size < w2.heap.size := by have := hg.2.2; rw [alsz] at this; omega
      go_wp2_with fail
      refine (HLB.out _).mono ?_; rintro e w3 ⟨rfl, hg2⟩
      go_wp2_with fail
      go_ret
      exact ⟨ret_bool H.out.symm, grown_trans (grown_trans ((Grown.refl _).alloc _ _) hg) hg2⟩
end Go.Proofs.Ytdamlnfjhpmpmaa
