/- The walk of the law GranuleLengths: it returns true at every input. -/
import Derived.Test.YtjphkgnngkbgcaaDoorGl6
namespace Go.Proofs.YtjphkgnngkbgcaaDoor
open Go.ChangeShapes Go.WideShapes Go.ChangeAt Go.RowKit

set_option maxHeartbeats 8000000 in
theorem len_1 (a b i : Int) (w : World) (hT : Tab w) (a0 : 0 ≤ a) (a1 : a ≤ 255) (b0 : 0 ≤ b) (b1 : b ≤ 255) (i0 : 0 ≤ i) (i1 : i ≤ 65535) (ha : a % 5 = 0) :
    Calls Tryd.prog 10 #[.int .u8 a, .int .u8 b, .int .u16 i] w fun e w' => e = .returned (.bool true) ∧ Grown w w' := by
  have hv : Cal.validB 1 0 = true := by rw [Cal.valid_iff]; omega
  have hG0 : Grown w (w.alloc (.cells #[.int .i64 1, .int .i64 0] 23)) := (Grown.refl _).alloc _ _
  have HT := Lib.hid (hT.grown hG0)
  have HV := Lib.hid hv
  clear hT
  have hcs : 1000000 ≤ Cal.fst 1 0 i ∨ (Cal.fst 1 0 i < 1000000 ∧ Cal.fst 1 0 i = 0) ∨ (Cal.fst 1 0 i < 1000000 ∧ Cal.fst 1 0 i ≠ 0 ∧ Cal.fst 1 0 (i + 1) = 1000000) ∨ (Cal.fst 1 0 i < 1000000 ∧ Cal.fst 1 0 i ≠ 0 ∧ Cal.fst 1 0 (i + 1) ≠ 1000000) := by omega
  rcases hcs with c | ⟨c1, c2⟩ | ⟨c1, c2, c3⟩ | ⟨c1, c2, c3⟩
  · have HC := Lib.hid c
    clear c hv
    go_enter Tryd.func10, Tryd.ntmps10
    go_wp2_with fail
    refine (span_out _ _ _ _ HT.out (Or.inr HC.out)).mono ?_; rintro e w1 ⟨rfl, hg⟩
    obtain ⟨hc, hf⟩ := gcell hg
    have HT1 := Lib.hid ((HT.out.grown hg).alloc #[.int .i64 0, .int .i64 0] 30)
    go_wp2_with fail
    refine (awake_law _ HT1.out).mono ?_; rintro e w2 ⟨rfl, hg2⟩
    go_wp2_with fail
    go_ret
    exact ⟨rfl, grown_trans ((grown_trans hG0 hg).alloc _ _) hg2⟩
  · have HC := Lib.hid c2
    clear hv c1 c2
    go_enter Tryd.func10, Tryd.ntmps10
    go_wp2_with fail
    refine (span_at _ _ _ 0 _ _ HT.out HV.out i0 HC.out rfl (by omega)).mono ?_; rintro e w1 ⟨rfl, hg⟩
    obtain ⟨hc, hf⟩ := gcell hg
    have HT1 := Lib.hid ((HT.out.grown hg).alloc #[.int .i64 0, .int .i64 (Cal.fst 1 0 (i + 1))] 30)
    go_wp2_with fail
    refine (awake_law _ HT1.out).mono ?_; rintro e w2 ⟨rfl, hg2⟩
    go_wp2_with fail
    go_ret
    exact ⟨rfl, grown_trans ((grown_trans hG0 hg).alloc _ _) hg2⟩
  · have HC := Lib.hid c3
    have hn : (Cal.fst 1 0 i == 0) = false := bne_of c2
    clear hv c2 c3
    go_enter Tryd.func10, Tryd.ntmps10
    go_wp2_with fail
    refine (span_at _ _ _ _ 1000000 _ HT.out HV.out i0 rfl HC.out (by omega)).mono ?_; rintro e w1 ⟨rfl, hg⟩
    obtain ⟨hc, hf⟩ := gcell hg
    have HT1 := Lib.hid ((HT.out.grown hg).alloc #[.int .i64 (Cal.fst 1 0 i), .int .i64 1000000] 30)
    go_wp2_with fail
    refine (awake_law _ HT1.out).mono ?_; rintro e w2 ⟨rfl, hg2⟩
    go_wp2_with fail
    go_ret
    exact ⟨rfl, grown_trans ((grown_trans hG0 hg).alloc _ _) hg2⟩
  · obtain ⟨l1, l2⟩ : 1 ≤ Cal.fst 1 0 (i + 1) - Cal.fst 1 0 i ∧ Cal.fst 1 0 (i + 1) - Cal.fst 1 0 i ≤ 1 := gran_len hv i0 c1 c2 c3
    have hb0 := Cal.fst_bd hv i0
    have hb1 := Cal.fst_bd hv (i := i + 1) (by omega)
    have hn : (Cal.fst 1 0 i == 0) = false := bne_of c2
    have hm : (Cal.fst 1 0 (i + 1) == 1000000) = false := bne_of c3
    clear hv c2 c3
    go_enter Tryd.func10, Tryd.ntmps10
    go_wp2_with fail
    refine (span_at _ _ _ _ _ _ HT.out HV.out i0 rfl rfl (by omega)).mono ?_; rintro e w1 ⟨rfl, hg⟩
    obtain ⟨hc, hf⟩ := gcell hg
    have hz : w.heap.size < w1.heap.size := by have := hg.2.2; simp at this; omega
    have hgr : Grown w w1 := grown_trans hG0 hg
    have HT1 := Lib.hid (((HT.out.grown hg).alloc #[.int .i64 (Cal.fst 1 0 i), .int .i64 (Cal.fst 1 0 (i + 1))] 30))
    have hk0 := kept hg (al0 w _ _ _)
    have hz1 : w.heap.size < w1.heap.size + 1 := by omega
    have hz2 : w.heap.size < w1.heap.size + 1 + 1 := by omega
    have hz3 : w.heap.size < w1.heap.size + 2 := by omega
    go_wp2_with fail
    refine (awake_law _ ((HT1.out.alloc _ _).alloc _ _)).mono ?_; rintro e w2 ⟨rfl, hg2⟩
    go_wp2_with fail
    go_ret
    exact ⟨ret_bool (by simp <;> omega), grown_trans (((hgr.alloc _ _).alloc _ _).alloc _ _) hg2⟩

set_option maxHeartbeats 8000000 in
theorem len_2 (a b i : Int) (w : World) (hT : Tab w) (a0 : 0 ≤ a) (a1 : a ≤ 255) (b0 : 0 ≤ b) (b1 : b ≤ 255) (i0 : 0 ≤ i) (i1 : i ≤ 65535) (ha : a % 5 = 1) :
    Calls Tryd.prog 10 #[.int .u8 a, .int .u8 b, .int .u16 i] w fun e w' => e = .returned (.bool true) ∧ Grown w w' := by
  have hv : Cal.validB 2 0 = true := by rw [Cal.valid_iff]; omega
  have hG0 : Grown w (w.alloc (.cells #[.int .i64 2, .int .i64 0] 23)) := (Grown.refl _).alloc _ _
  have HT := Lib.hid (hT.grown hG0)
  have HV := Lib.hid hv
  clear hT
  have hcs : 1000000 ≤ Cal.fst 2 0 i ∨ (Cal.fst 2 0 i < 1000000 ∧ Cal.fst 2 0 i = 0) ∨ (Cal.fst 2 0 i < 1000000 ∧ Cal.fst 2 0 i ≠ 0 ∧ Cal.fst 2 0 (i + 1) = 1000000) ∨ (Cal.fst 2 0 i < 1000000 ∧ Cal.fst 2 0 i ≠ 0 ∧ Cal.fst 2 0 (i + 1) ≠ 1000000) := by omega
  rcases hcs with c | ⟨c1, c2⟩ | ⟨c1, c2, c3⟩ | ⟨c1, c2, c3⟩
  · have HC := Lib.hid c
    clear c hv
    go_enter Tryd.func10, Tryd.ntmps10
    go_wp2_with fail
    refine (span_out _ _ _ _ HT.out (Or.inr HC.out)).mono ?_; rintro e w1 ⟨rfl, hg⟩
    obtain ⟨hc, hf⟩ := gcell hg
    have HT1 := Lib.hid ((HT.out.grown hg).alloc #[.int .i64 0, .int .i64 0] 30)
    go_wp2_with fail
    refine (awake_law _ HT1.out).mono ?_; rintro e w2 ⟨rfl, hg2⟩
    go_wp2_with fail
    go_ret
    exact ⟨rfl, grown_trans ((grown_trans hG0 hg).alloc _ _) hg2⟩
  · have HC := Lib.hid c2
    clear hv c1 c2
    go_enter Tryd.func10, Tryd.ntmps10
    go_wp2_with fail
    refine (span_at _ _ _ 0 _ _ HT.out HV.out i0 HC.out rfl (by omega)).mono ?_; rintro e w1 ⟨rfl, hg⟩
    obtain ⟨hc, hf⟩ := gcell hg
    have HT1 := Lib.hid ((HT.out.grown hg).alloc #[.int .i64 0, .int .i64 (Cal.fst 2 0 (i + 1))] 30)
    go_wp2_with fail
    refine (awake_law _ HT1.out).mono ?_; rintro e w2 ⟨rfl, hg2⟩
    go_wp2_with fail
    go_ret
    exact ⟨rfl, grown_trans ((grown_trans hG0 hg).alloc _ _) hg2⟩
  · have HC := Lib.hid c3
    have hn : (Cal.fst 2 0 i == 0) = false := bne_of c2
    clear hv c2 c3
    go_enter Tryd.func10, Tryd.ntmps10
    go_wp2_with fail
    refine (span_at _ _ _ _ 1000000 _ HT.out HV.out i0 rfl HC.out (by omega)).mono ?_; rintro e w1 ⟨rfl, hg⟩
    obtain ⟨hc, hf⟩ := gcell hg
    have HT1 := Lib.hid ((HT.out.grown hg).alloc #[.int .i64 (Cal.fst 2 0 i), .int .i64 1000000] 30)
    go_wp2_with fail
    refine (awake_law _ HT1.out).mono ?_; rintro e w2 ⟨rfl, hg2⟩
    go_wp2_with fail
    go_ret
    exact ⟨rfl, grown_trans ((grown_trans hG0 hg).alloc _ _) hg2⟩
  · obtain ⟨l1, l2⟩ : 1 ≤ Cal.fst 2 0 (i + 1) - Cal.fst 2 0 i ∧ Cal.fst 2 0 (i + 1) - Cal.fst 2 0 i ≤ 7 := gran_len hv i0 c1 c2 c3
    have hb0 := Cal.fst_bd hv i0
    have hb1 := Cal.fst_bd hv (i := i + 1) (by omega)
    have hn : (Cal.fst 2 0 i == 0) = false := bne_of c2
    have hm : (Cal.fst 2 0 (i + 1) == 1000000) = false := bne_of c3
    clear hv c2 c3
    go_enter Tryd.func10, Tryd.ntmps10
    go_wp2_with fail
    refine (span_at _ _ _ _ _ _ HT.out HV.out i0 rfl rfl (by omega)).mono ?_; rintro e w1 ⟨rfl, hg⟩
    obtain ⟨hc, hf⟩ := gcell hg
    have hz : w.heap.size < w1.heap.size := by have := hg.2.2; simp at this; omega
    have hgr : Grown w w1 := grown_trans hG0 hg
    have HT1 := Lib.hid (((HT.out.grown hg).alloc #[.int .i64 (Cal.fst 2 0 i), .int .i64 (Cal.fst 2 0 (i + 1))] 30))
    have hk0 := kept hg (al0 w _ _ _)
    have hz1 : w.heap.size < w1.heap.size + 1 := by omega
    have hz2 : w.heap.size < w1.heap.size + 1 + 1 := by omega
    have hz3 : w.heap.size < w1.heap.size + 2 := by omega
    go_wp2_with fail
    refine (awake_law _ ((HT1.out.alloc _ _).alloc _ _)).mono ?_; rintro e w2 ⟨rfl, hg2⟩
    go_wp2_with fail
    go_ret
    exact ⟨ret_bool (by simp <;> omega), grown_trans (((hgr.alloc _ _).alloc _ _).alloc _ _) hg2⟩

set_option maxHeartbeats 8000000 in
theorem len_3 (a b i : Int) (w : World) (hT : Tab w) (a0 : 0 ≤ a) (a1 : a ≤ 255) (b0 : 0 ≤ b) (b1 : b ≤ 255) (i0 : 0 ≤ i) (i1 : i ≤ 65535) (ha : a % 5 = 2) :
    Calls Tryd.prog 10 #[.int .u8 a, .int .u8 b, .int .u16 i] w fun e w' => e = .returned (.bool true) ∧ Grown w w' := by
  have hv : Cal.validB 3 (1 + b % 12) = true := by rw [Cal.valid_iff]; omega
  have hG0 : Grown w (w.alloc (.cells #[.int .i64 3, .int .i64 (1 + b % 12)] 23)) := (Grown.refl _).alloc _ _
  have HT := Lib.hid (hT.grown hG0)
  have HV := Lib.hid hv
  clear hT
  have hcs : 1000000 ≤ Cal.fst 3 (1 + b % 12) i ∨ (Cal.fst 3 (1 + b % 12) i < 1000000 ∧ Cal.fst 3 (1 + b % 12) i = 0) ∨ (Cal.fst 3 (1 + b % 12) i < 1000000 ∧ Cal.fst 3 (1 + b % 12) i ≠ 0 ∧ Cal.fst 3 (1 + b % 12) (i + 1) = 1000000) ∨ (Cal.fst 3 (1 + b % 12) i < 1000000 ∧ Cal.fst 3 (1 + b % 12) i ≠ 0 ∧ Cal.fst 3 (1 + b % 12) (i + 1) ≠ 1000000) := by omega
  rcases hcs with c | ⟨c1, c2⟩ | ⟨c1, c2, c3⟩ | ⟨c1, c2, c3⟩
  · have HC := Lib.hid c
    clear c hv
    go_enter Tryd.func10, Tryd.ntmps10
    go_wp2_with fail
    refine (span_out _ _ _ _ HT.out (Or.inr HC.out)).mono ?_; rintro e w1 ⟨rfl, hg⟩
    obtain ⟨hc, hf⟩ := gcell hg
    have HT1 := Lib.hid ((HT.out.grown hg).alloc #[.int .i64 0, .int .i64 0] 30)
    go_wp2_with fail
    refine (awake_law _ HT1.out).mono ?_; rintro e w2 ⟨rfl, hg2⟩
    go_wp2_with fail
    go_ret
    exact ⟨rfl, grown_trans ((grown_trans hG0 hg).alloc _ _) hg2⟩
  · have HC := Lib.hid c2
    clear hv c1 c2
    go_enter Tryd.func10, Tryd.ntmps10
    go_wp2_with fail
    refine (span_at _ _ _ 0 _ _ HT.out HV.out i0 HC.out rfl (by omega)).mono ?_; rintro e w1 ⟨rfl, hg⟩
    obtain ⟨hc, hf⟩ := gcell hg
    have HT1 := Lib.hid ((HT.out.grown hg).alloc #[.int .i64 0, .int .i64 (Cal.fst 3 (1 + b % 12) (i + 1))] 30)
    go_wp2_with fail
    refine (awake_law _ HT1.out).mono ?_; rintro e w2 ⟨rfl, hg2⟩
    go_wp2_with fail
    go_ret
    exact ⟨rfl, grown_trans ((grown_trans hG0 hg).alloc _ _) hg2⟩
  · have HC := Lib.hid c3
    have hn : (Cal.fst 3 (1 + b % 12) i == 0) = false := bne_of c2
    clear hv c2 c3
    go_enter Tryd.func10, Tryd.ntmps10
    go_wp2_with fail
    refine (span_at _ _ _ _ 1000000 _ HT.out HV.out i0 rfl HC.out (by omega)).mono ?_; rintro e w1 ⟨rfl, hg⟩
    obtain ⟨hc, hf⟩ := gcell hg
    have HT1 := Lib.hid ((HT.out.grown hg).alloc #[.int .i64 (Cal.fst 3 (1 + b % 12) i), .int .i64 1000000] 30)
    go_wp2_with fail
    refine (awake_law _ HT1.out).mono ?_; rintro e w2 ⟨rfl, hg2⟩
    go_wp2_with fail
    go_ret
    exact ⟨rfl, grown_trans ((grown_trans hG0 hg).alloc _ _) hg2⟩
  · obtain ⟨l1, l2⟩ : 28 ≤ Cal.fst 3 (1 + b % 12) (i + 1) - Cal.fst 3 (1 + b % 12) i ∧ Cal.fst 3 (1 + b % 12) (i + 1) - Cal.fst 3 (1 + b % 12) i ≤ 31 := gran_len hv i0 c1 c2 c3
    have hb0 := Cal.fst_bd hv i0
    have hb1 := Cal.fst_bd hv (i := i + 1) (by omega)
    have hn : (Cal.fst 3 (1 + b % 12) i == 0) = false := bne_of c2
    have hm : (Cal.fst 3 (1 + b % 12) (i + 1) == 1000000) = false := bne_of c3
    clear hv c2 c3
    go_enter Tryd.func10, Tryd.ntmps10
    go_wp2_with fail
    refine (span_at _ _ _ _ _ _ HT.out HV.out i0 rfl rfl (by omega)).mono ?_; rintro e w1 ⟨rfl, hg⟩
    obtain ⟨hc, hf⟩ := gcell hg
    have hz : w.heap.size < w1.heap.size := by have := hg.2.2; simp at this; omega
    have hgr : Grown w w1 := grown_trans hG0 hg
    have HT1 := Lib.hid (((HT.out.grown hg).alloc #[.int .i64 (Cal.fst 3 (1 + b % 12) i), .int .i64 (Cal.fst 3 (1 + b % 12) (i + 1))] 30))
    have hk0 := kept hg (al0 w _ _ _)
    have hz1 : w.heap.size < w1.heap.size + 1 := by omega
    have hz2 : w.heap.size < w1.heap.size + 1 + 1 := by omega
    have hz3 : w.heap.size < w1.heap.size + 2 := by omega
    go_wp2_with fail
    refine (awake_law _ ((HT1.out.alloc _ _).alloc _ _)).mono ?_; rintro e w2 ⟨rfl, hg2⟩
    go_wp2_with fail
    go_ret
    exact ⟨ret_bool (by simp <;> omega), grown_trans (((hgr.alloc _ _).alloc _ _).alloc _ _) hg2⟩

set_option maxHeartbeats 8000000 in
theorem len_4 (a b i : Int) (w : World) (hT : Tab w) (a0 : 0 ≤ a) (a1 : a ≤ 255) (b0 : 0 ≤ b) (b1 : b ≤ 255) (i0 : 0 ≤ i) (i1 : i ≤ 65535) (ha : a % 5 = 3) :
    Calls Tryd.prog 10 #[.int .u8 a, .int .u8 b, .int .u16 i] w fun e w' => e = .returned (.bool true) ∧ Grown w w' := by
  have hv : Cal.validB 4 (1 + b % 12) = true := by rw [Cal.valid_iff]; omega
  have hG0 : Grown w (w.alloc (.cells #[.int .i64 4, .int .i64 (1 + b % 12)] 23)) := (Grown.refl _).alloc _ _
  have HT := Lib.hid (hT.grown hG0)
  have HV := Lib.hid hv
  clear hT
  have hcs : 1000000 ≤ Cal.fst 4 (1 + b % 12) i ∨ (Cal.fst 4 (1 + b % 12) i < 1000000 ∧ Cal.fst 4 (1 + b % 12) i = 0) ∨ (Cal.fst 4 (1 + b % 12) i < 1000000 ∧ Cal.fst 4 (1 + b % 12) i ≠ 0 ∧ Cal.fst 4 (1 + b % 12) (i + 1) = 1000000) ∨ (Cal.fst 4 (1 + b % 12) i < 1000000 ∧ Cal.fst 4 (1 + b % 12) i ≠ 0 ∧ Cal.fst 4 (1 + b % 12) (i + 1) ≠ 1000000) := by omega
  rcases hcs with c | ⟨c1, c2⟩ | ⟨c1, c2, c3⟩ | ⟨c1, c2, c3⟩
  · have HC := Lib.hid c
    clear c hv
    go_enter Tryd.func10, Tryd.ntmps10
    go_wp2_with fail
    refine (span_out _ _ _ _ HT.out (Or.inr HC.out)).mono ?_; rintro e w1 ⟨rfl, hg⟩
    obtain ⟨hc, hf⟩ := gcell hg
    have HT1 := Lib.hid ((HT.out.grown hg).alloc #[.int .i64 0, .int .i64 0] 30)
    go_wp2_with fail
    refine (awake_law _ HT1.out).mono ?_; rintro e w2 ⟨rfl, hg2⟩
    go_wp2_with fail
    go_ret
    exact ⟨rfl, grown_trans ((grown_trans hG0 hg).alloc _ _) hg2⟩
  · have HC := Lib.hid c2
    clear hv c1 c2
    go_enter Tryd.func10, Tryd.ntmps10
    go_wp2_with fail
    refine (span_at _ _ _ 0 _ _ HT.out HV.out i0 HC.out rfl (by omega)).mono ?_; rintro e w1 ⟨rfl, hg⟩
    obtain ⟨hc, hf⟩ := gcell hg
    have HT1 := Lib.hid ((HT.out.grown hg).alloc #[.int .i64 0, .int .i64 (Cal.fst 4 (1 + b % 12) (i + 1))] 30)
    go_wp2_with fail
    refine (awake_law _ HT1.out).mono ?_; rintro e w2 ⟨rfl, hg2⟩
    go_wp2_with fail
    go_ret
    exact ⟨rfl, grown_trans ((grown_trans hG0 hg).alloc _ _) hg2⟩
  · have HC := Lib.hid c3
    have hn : (Cal.fst 4 (1 + b % 12) i == 0) = false := bne_of c2
    clear hv c2 c3
    go_enter Tryd.func10, Tryd.ntmps10
    go_wp2_with fail
    refine (span_at _ _ _ _ 1000000 _ HT.out HV.out i0 rfl HC.out (by omega)).mono ?_; rintro e w1 ⟨rfl, hg⟩
    obtain ⟨hc, hf⟩ := gcell hg
    have HT1 := Lib.hid ((HT.out.grown hg).alloc #[.int .i64 (Cal.fst 4 (1 + b % 12) i), .int .i64 1000000] 30)
    go_wp2_with fail
    refine (awake_law _ HT1.out).mono ?_; rintro e w2 ⟨rfl, hg2⟩
    go_wp2_with fail
    go_ret
    exact ⟨rfl, grown_trans ((grown_trans hG0 hg).alloc _ _) hg2⟩
  · obtain ⟨l1, l2⟩ : 89 ≤ Cal.fst 4 (1 + b % 12) (i + 1) - Cal.fst 4 (1 + b % 12) i ∧ Cal.fst 4 (1 + b % 12) (i + 1) - Cal.fst 4 (1 + b % 12) i ≤ 92 := gran_len hv i0 c1 c2 c3
    have hb0 := Cal.fst_bd hv i0
    have hb1 := Cal.fst_bd hv (i := i + 1) (by omega)
    have hn : (Cal.fst 4 (1 + b % 12) i == 0) = false := bne_of c2
    have hm : (Cal.fst 4 (1 + b % 12) (i + 1) == 1000000) = false := bne_of c3
    clear hv c2 c3
    go_enter Tryd.func10, Tryd.ntmps10
    go_wp2_with fail
    refine (span_at _ _ _ _ _ _ HT.out HV.out i0 rfl rfl (by omega)).mono ?_; rintro e w1 ⟨rfl, hg⟩
    obtain ⟨hc, hf⟩ := gcell hg
    have hz : w.heap.size < w1.heap.size := by have := hg.2.2; simp at this; omega
    have hgr : Grown w w1 := grown_trans hG0 hg
    have HT1 := Lib.hid (((HT.out.grown hg).alloc #[.int .i64 (Cal.fst 4 (1 + b % 12) i), .int .i64 (Cal.fst 4 (1 + b % 12) (i + 1))] 30))
    have hk0 := kept hg (al0 w _ _ _)
    have hz1 : w.heap.size < w1.heap.size + 1 := by omega
    have hz2 : w.heap.size < w1.heap.size + 1 + 1 := by omega
    have hz3 : w.heap.size < w1.heap.size + 2 := by omega
    go_wp2_with fail
    refine (awake_law _ ((HT1.out.alloc _ _).alloc _ _)).mono ?_; rintro e w2 ⟨rfl, hg2⟩
    go_wp2_with fail
    go_ret
    exact ⟨ret_bool (by simp <;> omega), grown_trans (((hgr.alloc _ _).alloc _ _).alloc _ _) hg2⟩

set_option maxHeartbeats 8000000 in
theorem len_5 (a b i : Int) (w : World) (hT : Tab w) (a0 : 0 ≤ a) (a1 : a ≤ 255) (b0 : 0 ≤ b) (b1 : b ≤ 255) (i0 : 0 ≤ i) (i1 : i ≤ 65535) (ha : a % 5 = 4) :
    Calls Tryd.prog 10 #[.int .u8 a, .int .u8 b, .int .u16 i] w fun e w' => e = .returned (.bool true) ∧ Grown w w' := by
  have hv : Cal.validB 5 (1 + b % 12) = true := by rw [Cal.valid_iff]; omega
  have hG0 : Grown w (w.alloc (.cells #[.int .i64 5, .int .i64 (1 + b % 12)] 23)) := (Grown.refl _).alloc _ _
  have HT := Lib.hid (hT.grown hG0)
  have HV := Lib.hid hv
  clear hT
  have hcs : 1000000 ≤ Cal.fst 5 (1 + b % 12) i ∨ (Cal.fst 5 (1 + b % 12) i < 1000000 ∧ Cal.fst 5 (1 + b % 12) i = 0) ∨ (Cal.fst 5 (1 + b % 12) i < 1000000 ∧ Cal.fst 5 (1 + b % 12) i ≠ 0 ∧ Cal.fst 5 (1 + b % 12) (i + 1) = 1000000) ∨ (Cal.fst 5 (1 + b % 12) i < 1000000 ∧ Cal.fst 5 (1 + b % 12) i ≠ 0 ∧ Cal.fst 5 (1 + b % 12) (i + 1) ≠ 1000000) := by omega
  rcases hcs with c | ⟨c1, c2⟩ | ⟨c1, c2, c3⟩ | ⟨c1, c2, c3⟩
  · have HC := Lib.hid c
    clear c hv
    go_enter Tryd.func10, Tryd.ntmps10
    go_wp2_with fail
    refine (span_out _ _ _ _ HT.out (Or.inr HC.out)).mono ?_; rintro e w1 ⟨rfl, hg⟩
    obtain ⟨hc, hf⟩ := gcell hg
    have HT1 := Lib.hid ((HT.out.grown hg).alloc #[.int .i64 0, .int .i64 0] 30)
    go_wp2_with fail
    refine (awake_law _ HT1.out).mono ?_; rintro e w2 ⟨rfl, hg2⟩
    go_wp2_with fail
    go_ret
    exact ⟨rfl, grown_trans ((grown_trans hG0 hg).alloc _ _) hg2⟩
  · have HC := Lib.hid c2
    clear hv c1 c2
    go_enter Tryd.func10, Tryd.ntmps10
    go_wp2_with fail
    refine (span_at _ _ _ 0 _ _ HT.out HV.out i0 HC.out rfl (by omega)).mono ?_; rintro e w1 ⟨rfl, hg⟩
    obtain ⟨hc, hf⟩ := gcell hg
    have HT1 := Lib.hid ((HT.out.grown hg).alloc #[.int .i64 0, .int .i64 (Cal.fst 5 (1 + b % 12) (i + 1))] 30)
    go_wp2_with fail
    refine (awake_law _ HT1.out).mono ?_; rintro e w2 ⟨rfl, hg2⟩
    go_wp2_with fail
    go_ret
    exact ⟨rfl, grown_trans ((grown_trans hG0 hg).alloc _ _) hg2⟩
  · have HC := Lib.hid c3
    have hn : (Cal.fst 5 (1 + b % 12) i == 0) = false := bne_of c2
    clear hv c2 c3
    go_enter Tryd.func10, Tryd.ntmps10
    go_wp2_with fail
    refine (span_at _ _ _ _ 1000000 _ HT.out HV.out i0 rfl HC.out (by omega)).mono ?_; rintro e w1 ⟨rfl, hg⟩
    obtain ⟨hc, hf⟩ := gcell hg
    have HT1 := Lib.hid ((HT.out.grown hg).alloc #[.int .i64 (Cal.fst 5 (1 + b % 12) i), .int .i64 1000000] 30)
    go_wp2_with fail
    refine (awake_law _ HT1.out).mono ?_; rintro e w2 ⟨rfl, hg2⟩
    go_wp2_with fail
    go_ret
    exact ⟨rfl, grown_trans ((grown_trans hG0 hg).alloc _ _) hg2⟩
  · obtain ⟨l1, l2⟩ : 365 ≤ Cal.fst 5 (1 + b % 12) (i + 1) - Cal.fst 5 (1 + b % 12) i ∧ Cal.fst 5 (1 + b % 12) (i + 1) - Cal.fst 5 (1 + b % 12) i ≤ 366 := gran_len hv i0 c1 c2 c3
    have hb0 := Cal.fst_bd hv i0
    have hb1 := Cal.fst_bd hv (i := i + 1) (by omega)
    have hn : (Cal.fst 5 (1 + b % 12) i == 0) = false := bne_of c2
    have hm : (Cal.fst 5 (1 + b % 12) (i + 1) == 1000000) = false := bne_of c3
    clear hv c2 c3
    go_enter Tryd.func10, Tryd.ntmps10
    go_wp2_with fail
    refine (span_at _ _ _ _ _ _ HT.out HV.out i0 rfl rfl (by omega)).mono ?_; rintro e w1 ⟨rfl, hg⟩
    obtain ⟨hc, hf⟩ := gcell hg
    have hz : w.heap.size < w1.heap.size := by have := hg.2.2; simp at this; omega
    have hgr : Grown w w1 := grown_trans hG0 hg
    have HT1 := Lib.hid (((HT.out.grown hg).alloc #[.int .i64 (Cal.fst 5 (1 + b % 12) i), .int .i64 (Cal.fst 5 (1 + b % 12) (i + 1))] 30))
    have hk0 := kept hg (al0 w _ _ _)
    have hz1 : w.heap.size < w1.heap.size + 1 := by omega
    have hz2 : w.heap.size < w1.heap.size + 1 + 1 := by omega
    have hz3 : w.heap.size < w1.heap.size + 2 := by omega
    go_wp2_with fail
    refine (awake_law _ ((HT1.out.alloc _ _).alloc _ _)).mono ?_; rintro e w2 ⟨rfl, hg2⟩
    go_wp2_with fail
    go_ret
    exact ⟨ret_bool (by simp <;> omega), grown_trans (((hgr.alloc _ _).alloc _ _).alloc _ _) hg2⟩

theorem law_GranuleLengths (a b i : Int) (w : World) (hT : Tab w) (a0 : 0 ≤ a) (a1 : a ≤ 255) (b0 : 0 ≤ b) (b1 : b ≤ 255) (i0 : 0 ≤ i) (i1 : i ≤ 65535) :
    Calls Tryd.prog 10 #[.int .u8 a, .int .u8 b, .int .u16 i] w fun e w' => e = .returned (.bool true) ∧ Grown w w' := by
  have h : a % 5 = 0 ∨ a % 5 = 1 ∨ a % 5 = 2 ∨ a % 5 = 3 ∨ a % 5 = 4 := by omega
  rcases h with h | h | h | h | h
  · exact len_1 a b i w hT a0 a1 b0 b1 i0 i1 h
  · exact len_2 a b i w hT a0 a1 b0 b1 i0 i1 h
  · exact len_3 a b i w hT a0 a1 b0 b1 i0 i1 h
  · exact len_4 a b i w hT a0 a1 b0 b1 i0 i1 h
  · exact len_5 a b i w hT a0 a1 b0 b1 i0 i1 h
theorem wf_u8 {a : Int} (h : (Lit.int .u8 a).wf = true) : 0 ≤ a ∧ a ≤ 255 := by
  have h1 : IntKind.u8.min = 0 := by decide
  have h2 : IntKind.u8.max = 255 := by decide
  simp [Lit.wf] at h
  omega
theorem wf_u16 {a : Int} (h : (Lit.int .u16 a).wf = true) : 0 ≤ a ∧ a ≤ 65535 := by
  have h1 : IntKind.u16.min = 0 := by decide
  have h2 : IntKind.u16.max = 65535 := by decide
  simp [Lit.wf] at h
  omega
end Go.Proofs.YtjphkgnngkbgcaaDoor
