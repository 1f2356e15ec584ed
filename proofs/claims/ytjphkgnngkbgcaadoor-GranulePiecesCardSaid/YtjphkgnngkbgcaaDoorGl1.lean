/- Contracts of IndexOf and Covering at every input, the program's and the reference's, and of the laws' check of fixed granules. -/
import Derived.Test.YtjphkgnngkbgcaaDoorGr3
namespace Go.Proofs.YtjphkgnngkbgcaaDoor
open Go.ChangeShapes Go.WideShapes Go.ChangeAt Go.RowKit

theorem and_no {a b : Bool} (h : (a && b) = false) : a = false ∨ b = false := by cases a <;> simp_all
def ixB (k s n : Int) : Bool := Cal.validB k s && Cal.isDayB n
def ixV (k s n : Int) : Int := if ixB k s n = true then Cal.idx k s n else 0
theorem ix_yes {k s n : Int} (hv : Cal.validB k s = true) (h0 : 0 ≤ n) (h1 : n < 1000000) : ixB k s n = true ∧ ixV k s n = Cal.idx k s n := by
  have : ixB k s n = true := by simp [ixB, hv, (Cal.isDay_iff n).2 ⟨h0, h1⟩]
  exact ⟨this, by simp [ixV, this]⟩
theorem idx_gra (k s n : Int) (w : World) (hT : Tab w) :
    Calls Tryd.prog 11 #[gv k s, .int .i64 n] w fun e w' => e = .returned (.tuple #[.int .i64 (ixV k s n), .bool (ixB k s n)]) ∧ Grown w w' := by
  cases h : ixB k s n
  · rw [show ixV k s n = 0 by simp [ixV, h]]
    exact idx_gra_no k s n w (and_no h)
  · rw [show ixV k s n = Cal.idx k s n by simp [ixV, h]]
    simp only [ixB, Bool.and_eq_true] at h
    obtain ⟨a, b⟩ := (Cal.isDay_iff n).1 h.2
    exact idx_gra_yes k s n w hT h.1 a b
theorem idx_ref (k s n : Int) (w : World) :
    Calls Tryd.prog 12 #[gv k s, .int .i64 n] w fun e w' => e = .returned (.tuple #[.int .i64 (ixV k s n), .bool (ixB k s n)]) ∧ Grown w w' := by
  cases h : ixB k s n
  · rw [show ixV k s n = 0 by simp [ixV, h]]
    exact idx_ref_no k s n w (and_no h)
  · rw [show ixV k s n = Cal.idx k s n by simp [ixV, h]]
    simp only [ixB, Bool.and_eq_true] at h
    obtain ⟨a, b⟩ := (Cal.isDay_iff n).1 h.2
    exact idx_ref_yes k s n w h.1 a b

theorem wf1 : Cal.fst 2 0 0 = 0 := Cal.fst_zero valid_week
theorem wf2 : Cal.fst 2 0 1 = 2 := by
  rw [Cal.fst_eq valid_week (by omega) (Cal.isFst_w (y := 1600) (i := 1) (by omega) (by decide) (by decide))]; decide
theorem span_fix (w : World) (hT : Tab w) :
    Calls Tryd.prog 16 #[gv 2 0, .int .i64 0] w fun e w' => e = .returned (.tuple #[pv 0 2, .bool true]) ∧ Grown w w' := by
  have hb : spB 2 0 0 = true := by simp [spB, valid_week, wf1]
  obtain ⟨_, _, _, _, f, t⟩ := sp_yes hb
  have := span_gra 2 0 0 w hT
  rw [f, t, hb, wf1] at this
  rw [show (0 : Int) + 1 = 1 from rfl, wf2] at this
  exact this
theorem idx_fix (w : World) (hT : Tab w) :
    Calls Tryd.prog 11 #[gv 5 4, .int .i64 100] w fun e w' => e = .returned (.tuple #[.int .i64 1, .bool true]) ∧ Grown w w' := by
  have := idx_gra 5 4 100 w hT
  rwa [show ixV 5 4 100 = 1 by decide, show ixB 5 4 100 = true by decide] at this

set_option maxHeartbeats 2000000 in
theorem awake_law (w : World) (hT : Tab w) : Calls Tryd.prog 13 #[] w fun e w' => e = .returned (.bool true) ∧ Grown w w' := by
  have HT := Lib.hid hT
  clear hT
  go_enter Tryd.func13, Tryd.ntmps13
  go_wp2_with fail
  refine (span_fix _ HT.out).mono ?_; rintro e w1 ⟨rfl, hg⟩
  have HT1 := Lib.hid ((HT.out.grown hg).alloc #[.int .i64 0, .int .i64 2] 30)
  go_wp2_with fail
  refine (idx_fix _ HT1.out).mono ?_; rintro e w2 ⟨rfl, hg2⟩
  obtain ⟨hc2, hf2⟩ := gcell hg2
  have hz : w1.heap.size < w2.heap.size := by have := hg2.2.2; simp at this; omega
  go_wp2_with fail
  refine (valid_gra_no _ _ _ (by decide)).mono ?_; rintro e w3 ⟨rfl, hg3⟩
  go_wp2_with fail
  go_ret
  exact ⟨rfl, grown_trans (grown_trans (hg.alloc _ _) hg2) hg3⟩
end Go.Proofs.YtjphkgnngkbgcaaDoor
