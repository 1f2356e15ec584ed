/- The walk of the law GranulePartition: it returns true at every input. -/
import Derived.Test.YtjphkgnngkbgcaaDoorGl4
namespace Go.Proofs.YtjphkgnngkbgcaaDoor
open Go.ChangeShapes Go.WideShapes Go.ChangeAt Go.RowKit

set_option maxHeartbeats 8000000 in
theorem part_mid (k s n i a b c d : Int) (w : World) (HT : Hid (Tab (w.alloc (.cells #[.int .i64 k, .int .i64 s] 23)))) (HV : Hid (Cal.validB k s = true)) (n0 : 0 ≤ n) (n1 : n < 1000000)
    (HI : Hid (Cal.idx k s n = i)) (i0 : 0 ≤ i) (i1 : i ≤ 1000000) (HA : Hid (Cal.fst k s i = a)) (HB : Hid (Cal.fst k s (i + 1) = b)) (HC : Hid (Cal.fst k s (i + 1 + 1) = c)) (HD : Hid (Cal.fst k s (i - 1) = d)) (a0 : 0 ≤ a) (an : a ≤ n) (nb : n < b) (b1 : b ≤ 1000000)
    (hp : (i ≤ 0 ∧ a ≤ 0) ∨ (1 ≤ i ∧ 0 < a ∧ d < a)) (hq : 1000000 ≤ b ∨ b < 1000000) :
    Calls Tryd.prog 5 #[gv k s, .int .i64 n] w fun e w' => e = .returned (.bool true) ∧ Grown w w' := by
  have HA' : Hid (Cal.fst k s (i - 1 + 1) = a) := Lib.hid (by rw [show i - 1 + 1 = i by omega]; exact HA.out)
  rcases hp with ⟨p1, p2⟩ | ⟨p1, p2, p3⟩
  all_goals
    rcases hq with q1 | q1
    all_goals
      go_enter Tryd.func5, Tryd.ntmps5
      go_wp2_with fail
      refine (valid_ref_yes _ _ _ HV.out).mono ?_; rintro e w1 ⟨rfl, hg⟩
      obtain ⟨hc, hf⟩ := gcell hg
      have hz : w.heap.size < w1.heap.size := by have := hg.2.2; simp at this; omega
      have HT1 := Lib.hid (HT.out.grown hg)
      go_wp2_with fail
      refine (isday_ref_yes _ _ n0 n1).mono ?_; rintro e w' ⟨rfl, rfl⟩
      go_wp2_with fail
      refine (idx_gra_yes _ _ _ _ HT1.out HV.out n0 n1).mono ?_; rintro e w2 ⟨rfl, hg2⟩
      rw [HI.out]
      obtain ⟨hc2, hf2⟩ := gcell hg2
      have hz2 : w.heap.size < w2.heap.size := by have := hg2.2.2; omega
      have HT2 := Lib.hid (HT1.out.grown hg2)
      go_wp2_with fail
      refine (span_at _ _ _ _ _ _ HT2.out HV.out (by omega) HA.out HB.out (by omega)).mono ?_; rintro e w3 ⟨rfl, hg3⟩
      obtain ⟨hc3, hf3⟩ := gcell hg3
      have hz3 : w.heap.size < w3.heap.size := by have := hg3.2.2; omega
      have HT3 := Lib.hid ((HT2.out.grown hg3).alloc #[.int .i64 a, .int .i64 b] 30)
      go_wp2_with fail
      first
        | (refine (span_out _ _ _ _ HT3.out (Or.inl (by omega))).mono ?_; rintro e w4 ⟨rfl, hg4⟩
           have HT4 := Lib.hid ((HT3.out.grown hg4).alloc #[.int .i64 0, .int .i64 0] 30))
        | (refine (span_at _ _ _ _ _ _ HT3.out HV.out (by omega) HD.out HA'.out (by omega)).mono ?_; rintro e w4 ⟨rfl, hg4⟩
           have HT4 := Lib.hid ((HT3.out.grown hg4).alloc #[.int .i64 d, .int .i64 a] 30))
      obtain ⟨hc4, hf4⟩ := gcell hg4
      obtain ⟨hz4, hy4⟩ : w.heap.size < w4.heap.size ∧ w3.heap.size < w4.heap.size := by have := hg4.2.2; simp at this; omega
      go_wp2_with fail
      first
        | (refine (span_out _ _ _ _ HT4.out (Or.inr (by rw [HB.out]; exact q1))).mono ?_; rintro e w5 ⟨rfl, hg5⟩
           have HT5 := Lib.hid ((HT4.out.grown hg5).alloc #[.int .i64 0, .int .i64 0] 30))
        | (refine (span_at _ _ _ _ _ _ HT4.out HV.out (by omega) HB.out HC.out (by omega)).mono ?_; rintro e w5 ⟨rfl, hg5⟩
           have HT5 := Lib.hid ((HT4.out.grown hg5).alloc #[.int .i64 b, .int .i64 c] 30))
      obtain ⟨hc5, hf5⟩ := gcell hg5
      obtain ⟨hz5, hy5, hx5⟩ : w.heap.size < w5.heap.size ∧ w3.heap.size < w5.heap.size ∧ w4.heap.size < w5.heap.size := by have := hg5.2.2; simp at this; omega
      go_wp2_with fail
      refine (awake_law _ HT5.out).mono ?_; rintro e w6 ⟨rfl, hg6⟩
      obtain ⟨hc6, hf6⟩ := gcell hg6
      obtain ⟨hy6, hx6, hv6⟩ : w3.heap.size < w6.heap.size ∧ w4.heap.size < w6.heap.size ∧ w5.heap.size < w6.heap.size := by have := hg6.2.2; simp at this; omega
      go_wp2_with fail
      go_ret
      exact ⟨ret_bool (by simp <;> omega), grown_trans ((grown_trans ((grown_trans ((grown_trans (grown_trans (grown_trans ((Grown.refl _).alloc _ _) hg) hg2) hg3).alloc _ _) hg4).alloc _ _) hg5).alloc _ _) hg6⟩

set_option maxHeartbeats 4000000 in
theorem law_GranulePartition (k s n : Int) (w : World) (hT : Tab w) :
    Calls Tryd.prog 5 #[gv k s, .int .i64 n] w fun e w' => e = .returned (.bool true) ∧ Grown w w' := by
  have HT := Lib.hid (hT.alloc #[.int .i64 k, .int .i64 s] 23)
  clear hT
  cases hv : Cal.validB k s
  · have HV := Lib.hid hv
    clear hv
    go_enter Tryd.func5, Tryd.ntmps5
    go_wp2_with fail
    refine (valid_ref_no _ _ _ HV.out).mono ?_; rintro e w1 ⟨rfl, hg⟩
    have HT1 := Lib.hid (HT.out.grown hg)
    go_wp2_with fail
    refine (awake_law _ HT1.out).mono ?_; rintro e w2 ⟨rfl, hg2⟩
    go_wp2_with fail
    go_ret
    exact ⟨rfl, grown_trans (grown_trans ((Grown.refl _).alloc _ _) hg) hg2⟩
  · have HV := Lib.hid hv
    by_cases hn : 0 ≤ n ∧ n < 1000000
    · obtain ⟨n0, n1⟩ := hn
      have hb := idx_bd hv n0 n1
      have ha := (Cal.fst_gal hv hb.1 n0 n1).1 (Int.le_refl _)
      have hb1 : ¬ Cal.fst k s (Cal.idx k s n + 1) ≤ n := fun e => by have := (Cal.fst_gal hv (i := Cal.idx k s n + 1) (by omega) n0 n1).2 e; omega
      have f0 := Cal.fst_bd hv hb.1
      have f1 := Cal.fst_bd hv (i := Cal.idx k s n + 1) (by omega)
      refine part_mid k s n (Cal.idx k s n) _ _ _ _ w HT HV n0 n1 (Lib.hid rfl) hb.1 (by omega) (Lib.hid rfl) (Lib.hid rfl) (Lib.hid rfl) (Lib.hid rfl) f0.1 ha (by omega) f1.2 ?_ (by omega)
      by_cases hi : Cal.idx k s n = 0
      · left; rw [hi, Cal.fst_zero hv]; omega
      · right
        have g := Cal.fst_bd hv (i := Cal.idx k s n - 1) (by omega)
        have l := Cal.fst_lt hv (i := Cal.idx k s n - 1) (by omega) (by
          have := (Cal.fst_gal hv (i := Cal.idx k s n - 1) (by omega) n0 n1).1 (by omega); omega)
        rw [show Cal.idx k s n - 1 + 1 = Cal.idx k s n by omega] at l
        omega
    · have HD := Lib.hid hn
      clear hv hn
      go_enter Tryd.func5, Tryd.ntmps5
      go_wp2_with fail
      refine (valid_ref_yes _ _ _ HV.out).mono ?_; rintro e w1 ⟨rfl, hg⟩
      have HT1 := Lib.hid (HT.out.grown hg)
      go_wp2_with fail
      refine (isday_ref_no _ _ HD.out).mono ?_; rintro e w' ⟨rfl, rfl⟩
      go_wp2_with fail
      refine (awake_law _ HT1.out).mono ?_; rintro e w2 ⟨rfl, hg2⟩
      go_wp2_with fail
      go_ret
      exact ⟨rfl, grown_trans (grown_trans ((Grown.refl _).alloc _ _) hg) hg2⟩
end Go.Proofs.YtjphkgnngkbgcaaDoor
