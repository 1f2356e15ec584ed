/- Contracts of Covering, the program's and the reference's. -/
import Derived.Test.YtjphkgnngkbgcaaDoorGl1
namespace Go.Proofs.YtjphkgnngkbgcaaDoor
open Go.ChangeShapes Go.WideShapes Go.ChangeAt Go.RowKit

noncomputable def cvB (k s i h t : Int) : Bool := spB k s i && Cal.validB h t
noncomputable def cvA (k s i h t : Int) : Int := if cvB k s i h t = true then Cal.idx h t (Cal.fst k s i) else 0
noncomputable def cvZ (k s i h t : Int) : Int := if cvB k s i h t = true then Cal.idx h t (Cal.fst k s (i + 1) - 1) else 0
theorem cv_no {k s i h t : Int} (c : cvB k s i h t = false) : cvA k s i h t = 0 ∧ cvZ k s i h t = 0 := by simp [cvA, cvZ, c]
theorem cv_yes {k s i h t : Int} (c : cvB k s i h t = true) : spB k s i = true ∧ Cal.validB h t = true ∧ cvA k s i h t = Cal.idx h t (Cal.fst k s i) ∧ cvZ k s i h t = Cal.idx h t (Cal.fst k s (i + 1) - 1) := by
  refine ⟨?_, ?_, by simp [cvA, c], by simp [cvZ, c]⟩
  all_goals simp only [cvB, Bool.and_eq_true] at c
  · exact c.1
  · exact c.2
theorem sp_bd {k s i : Int} (h : spB k s i = true) : 0 ≤ spF k s i ∧ spF k s i < spT k s i ∧ spT k s i ≤ 1000000 := by
  obtain ⟨v, c2, c3, c4, f, t⟩ := sp_yes h
  rw [f, t]
  exact ⟨(Cal.fst_bd v c2).1, Cal.fst_lt v c2 c4, (Cal.fst_bd v (by omega)).2⟩
theorem span_gra_yes (k s i : Int) (w : World) (hT : Tab w) (h : spB k s i = true) :
    Calls Tryd.prog 16 #[gv k s, .int .i64 i] w fun e w' => e = .returned (.tuple #[pv (spF k s i) (spT k s i), .bool true]) ∧ Grown w w' := by
  have := span_gra k s i w hT; rwa [h] at this
theorem span_gra_no (k s i : Int) (w : World) (hT : Tab w) (h : spB k s i = false) :
    Calls Tryd.prog 16 #[gv k s, .int .i64 i] w fun e w' => e = .returned (.tuple #[pv 0 0, .bool false]) ∧ Grown w w' := by
  have := span_gra k s i w hT; obtain ⟨f, t, _⟩ := sp_no h; rwa [h, f, t] at this
theorem span_ref_yes (k s i : Int) (w : World) (h : spB k s i = true) :
    Calls Tryd.prog 17 #[gv k s, .int .i64 i] w fun e w' => e = .returned (.tuple #[pv (spF k s i) (spT k s i), .bool true]) ∧ Grown w w' := by
  have := span_ref k s i w; rwa [h] at this
theorem span_ref_no (k s i : Int) (w : World) (h : spB k s i = false) :
    Calls Tryd.prog 17 #[gv k s, .int .i64 i] w fun e w' => e = .returned (.tuple #[pv 0 0, .bool false]) ∧ Grown w w' := by
  have := span_ref k s i w; obtain ⟨f, t, _⟩ := sp_no h; rwa [h, f, t] at this
theorem ret_iib {a b a' b' : Int} {c c' : Bool} (h1 : a = a') (h2 : b = b') (h3 : c = c') : Ending.returned (.tuple #[.int .i64 a, .int .i64 b, .bool c]) = .returned (.tuple #[.int .i64 a', .int .i64 b', .bool c']) := by rw [h1, h2, h3]

set_option maxHeartbeats 4000000 in
theorem cov_gra (k s i h t : Int) (w : World) (hT : Tab w) :
    Calls Tryd.prog 22 #[gv k s, .int .i64 i, gv h t] w fun e w' => e = .returned (.tuple #[.int .i64 (cvA k s i h t), .int .i64 (cvZ k s i h t), .bool (cvB k s i h t)]) ∧ Grown w w' := by
  have HT := Lib.hid ((hT.alloc #[.int .i64 k, .int .i64 s] 23).alloc #[.int .i64 h, .int .i64 t] 23)
  clear hT
  cases c : cvB k s i h t
  · obtain ⟨ea, ez⟩ := cv_no c
    rw [ea, ez]
    cases hs : spB k s i
    · have HS := Lib.hid hs
      clear c ea ez hs
      go_enter Tryd.func22, Tryd.ntmps22
      go_wp2_with fail
      refine (span_gra_no _ _ _ _ HT.out HS.out).mono ?_; rintro e w1 ⟨rfl, hg⟩
      obtain ⟨hc, hf⟩ := gcell hg
      go_wp2_with fail
      go_ret3
      exact ⟨rfl, (grown_trans (((Grown.refl _).alloc _ _).alloc _ _) hg).alloc _ _⟩
    · have HS := Lib.hid hs
      have HV := Lib.hid ((and_no c).resolve_left (by rw [hs]; simp))
      clear c ea ez hs
      go_enter Tryd.func22, Tryd.ntmps22
      go_wp2_with fail
      refine (span_gra_yes _ _ _ _ HT.out HS.out).mono ?_; rintro e w1 ⟨rfl, hg⟩
      obtain ⟨hc, hf⟩ := gcell hg
      obtain ⟨hz', hz⟩ : w.heap.size < w1.heap.size ∧ w.heap.size + 1 < w1.heap.size := by have := hg.2.2; simp at this; omega
      go_wp2_with fail
      refine (valid_gra_no _ _ _ HV.out).mono ?_; rintro e w2 ⟨rfl, hg2⟩
      obtain ⟨hc2, hf2⟩ := gcell hg2
      go_wp2_with fail
      go_ret3
      exact ⟨rfl, grown_trans ((grown_trans (((Grown.refl _).alloc _ _).alloc _ _) hg).alloc _ _) hg2⟩
  · obtain ⟨hs, hv, ea, ez⟩ := cv_yes c
    obtain ⟨sv, s2, s3, s4, sf, st⟩ := sp_yes hs
    have hb := sp_bd hs
    have HS := Lib.hid hs
    have HV := Lib.hid hv
    have HE := Lib.hid (show cvA k s i h t = ixV h t (spF k s i) ∧ cvZ k s i h t = ixV h t (spT k s i - 1) by
      rw [(ix_yes hv (n := spF k s i) (by omega) (by omega)).2, (ix_yes hv (n := spT k s i - 1) (by omega) (by omega)).2, ea, ez, sf, st]; exact ⟨rfl, rfl⟩)
    clear c ea ez hs hv sv sf st
    go_enter Tryd.func22, Tryd.ntmps22
    go_wp2_with fail
    refine (span_gra_yes _ _ _ _ HT.out HS.out).mono ?_; rintro e w1 ⟨rfl, hg⟩
    obtain ⟨hc, hf⟩ := gcell hg
    obtain ⟨hz', hz⟩ : w.heap.size < w1.heap.size ∧ w.heap.size + 1 < w1.heap.size := by have := hg.2.2; simp at this; omega
    have HT1 := Lib.hid ((HT.out.grown hg).alloc #[.int .i64 (spF k s i), .int .i64 (spT k s i)] 30)
    go_wp2_with fail
    refine (valid_gra_yes _ _ _ HV.out).mono ?_; rintro e w2 ⟨rfl, hg2⟩
    obtain ⟨hc2, hf2⟩ := gcell hg2
    obtain ⟨hy', hy, hy2⟩ : w.heap.size < w2.heap.size ∧ w.heap.size + 1 < w2.heap.size ∧ w1.heap.size < w2.heap.size := by have := hg2.2.2; simp at this; omega
    have HT2 := Lib.hid (HT1.out.grown hg2)
    go_wp2_with fail
    refine (idx_gra _ _ _ _ HT2.out).mono ?_; rintro e w3 ⟨rfl, hg3⟩
    obtain ⟨hc3, hf3⟩ := gcell hg3
    obtain ⟨hx', hx, hx2⟩ : w.heap.size < w3.heap.size ∧ w.heap.size + 1 < w3.heap.size ∧ w1.heap.size < w3.heap.size := by have := hg3.2.2; omega
    have HT3 := Lib.hid (HT2.out.grown hg3)
    go_wp2_with fail
    refine (idx_gra _ _ _ _ HT3.out).mono ?_; rintro e w4 ⟨rfl, hg4⟩
    go_wp2_with fail
    go_ret3
    exact ⟨ret_iib HE.out.1.symm HE.out.2.symm rfl, grown_trans (grown_trans (grown_trans ((grown_trans (((Grown.refl _).alloc _ _).alloc _ _) hg).alloc _ _) hg2) hg3) hg4⟩

set_option maxHeartbeats 4000000 in
theorem cov_ref (k s i h t : Int) (w : World) :
    Calls Tryd.prog 23 #[gv k s, .int .i64 i, gv h t] w fun e w' => e = .returned (.tuple #[.int .i64 (cvA k s i h t), .int .i64 (cvZ k s i h t), .bool (cvB k s i h t)]) ∧ Grown w w' := by
  cases c : cvB k s i h t
  · obtain ⟨ea, ez⟩ := cv_no c
    rw [ea, ez]
    cases hs : spB k s i
    · have HS := Lib.hid hs
      clear c ea ez hs
      go_enter Tryd.func23, Tryd.ntmps23
      go_wp2_with fail
      refine (span_ref_no _ _ _ _ HS.out).mono ?_; rintro e w1 ⟨rfl, hg⟩
      obtain ⟨hc, hf⟩ := gcell hg
      go_wp2_with fail
      go_ret3
      exact ⟨rfl, (grown_trans (((Grown.refl _).alloc _ _).alloc _ _) hg).alloc _ _⟩
    · have HS := Lib.hid hs
      have HV := Lib.hid ((and_no c).resolve_left (by rw [hs]; simp))
      clear c ea ez hs
      go_enter Tryd.func23, Tryd.ntmps23
      go_wp2_with fail
      refine (span_ref_yes _ _ _ _ HS.out).mono ?_; rintro e w1 ⟨rfl, hg⟩
      obtain ⟨hc, hf⟩ := gcell hg
      obtain ⟨hz', hz⟩ : w.heap.size < w1.heap.size ∧ w.heap.size + 1 < w1.heap.size := by have := hg.2.2; simp at this; omega
      go_wp2_with fail
      refine (valid_ref_no _ _ _ HV.out).mono ?_; rintro e w2 ⟨rfl, hg2⟩
      obtain ⟨hc2, hf2⟩ := gcell hg2
      go_wp2_with fail
      go_ret3
      exact ⟨rfl, grown_trans ((grown_trans (((Grown.refl _).alloc _ _).alloc _ _) hg).alloc _ _) hg2⟩
  · obtain ⟨hs, hv, ea, ez⟩ := cv_yes c
    obtain ⟨sv, s2, s3, s4, sf, st⟩ := sp_yes hs
    have hb := sp_bd hs
    have HS := Lib.hid hs
    have HV := Lib.hid hv
    have HE := Lib.hid (show cvA k s i h t = ixV h t (spF k s i) ∧ cvZ k s i h t = ixV h t (spT k s i - 1) by
      rw [(ix_yes hv (n := spF k s i) (by omega) (by omega)).2, (ix_yes hv (n := spT k s i - 1) (by omega) (by omega)).2, ea, ez, sf, st]; exact ⟨rfl, rfl⟩)
    clear c ea ez hs hv sv sf st
    go_enter Tryd.func23, Tryd.ntmps23
    go_wp2_with fail
    refine (span_ref_yes _ _ _ _ HS.out).mono ?_; rintro e w1 ⟨rfl, hg⟩
    obtain ⟨hc, hf⟩ := gcell hg
    obtain ⟨hz', hz⟩ : w.heap.size < w1.heap.size ∧ w.heap.size + 1 < w1.heap.size := by have := hg.2.2; simp at this; omega
    go_wp2_with fail
    refine (valid_ref_yes _ _ _ HV.out).mono ?_; rintro e w2 ⟨rfl, hg2⟩
    obtain ⟨hc2, hf2⟩ := gcell hg2
    obtain ⟨hy', hy, hy2⟩ : w.heap.size < w2.heap.size ∧ w.heap.size + 1 < w2.heap.size ∧ w1.heap.size < w2.heap.size := by have := hg2.2.2; simp at this; omega
    go_wp2_with fail
    refine (idx_ref _ _ _ _).mono ?_; rintro e w3 ⟨rfl, hg3⟩
    obtain ⟨hc3, hf3⟩ := gcell hg3
    obtain ⟨hx', hx, hx2⟩ : w.heap.size < w3.heap.size ∧ w.heap.size + 1 < w3.heap.size ∧ w1.heap.size < w3.heap.size := by have := hg3.2.2; omega
    go_wp2_with fail
    refine (idx_ref _ _ _ _).mono ?_; rintro e w4 ⟨rfl, hg4⟩
    go_wp2_with fail
    go_ret3
    exact ⟨ret_iib HE.out.1.symm HE.out.2.symm rfl, grown_trans (grown_trans (grown_trans ((grown_trans (((Grown.refl _).alloc _ _).alloc _ _) hg).alloc _ _) hg2) hg3) hg4⟩
end Go.Proofs.YtjphkgnngkbgcaaDoor
