/- Contracts of granule's Span and Covering. -/
import Derived.Test.YtjphkgnngkbgcaaDoorGw4
namespace Go.Proofs.YtjphkgnngkbgcaaDoor
open Go.ChangeShapes Go.WideShapes Go.ChangeAt Go.RowKit

set_option maxHeartbeats 2000000 in
theorem span_gra (k s i : Int) (w : World) (hT : Tab w) :
    Calls Tryd.prog 16 #[gv k s, .int .i64 i] w fun e w' => e = .returned (.tuple #[pv (spF k s i) (spT k s i), .bool (spB k s i)]) ∧ Grown w w' := by
  have HT := Lib.hid ((hT.alloc #[.int .i64 k, .int .i64 s] 23).alloc #[.int .i64 0, .int .i64 0] 30)
  clear hT
  cases hb : spB k s i
  · obtain ⟨f, t, c⟩ := sp_no hb
    rw [f, t]
    clear hb f t
    rcases c with c | c | c | ⟨c1, c2, c3, c4⟩
    · have HV := Lib.hid c
      clear c
      go_enter Tryd.func16, Tryd.ntmps16
      go_wp2_with fail
      refine (valid_gra_no _ _ _ HV.out).mono ?_; rintro e w1 ⟨rfl, hg⟩
      obtain ⟨hc, hf⟩ := gcell hg
      obtain ⟨hz', hz⟩ : w.heap.size < w1.heap.size ∧ w.heap.size + 1 < w1.heap.size := by have := hg.2.2; simp at this; omega
      go_wp2_with fail
      exact bodyPost_ret (v := .tuple #[pv 0 0, .bool false]) (by simp [results, Tryd.results16, go_sem, hc]) rfl ⟨rfl, ((grown_trans (((Grown.refl _).alloc _ _).alloc _ _) hg).setCell (by simp) _).setCell (by simp) _⟩
    · cases hv : Cal.validB k s
      all_goals
        have HV := Lib.hid hv
        clear hv
        go_enter Tryd.func16, Tryd.ntmps16
        go_wp2_with fail
        first | (refine (valid_gra_no _ _ _ HV.out).mono ?_; rintro e w1 ⟨rfl, hg⟩) | (refine (valid_gra_yes _ _ _ HV.out).mono ?_; rintro e w1 ⟨rfl, hg⟩)
        obtain ⟨hc, hf⟩ := gcell hg
        obtain ⟨hz', hz⟩ : w.heap.size < w1.heap.size ∧ w.heap.size + 1 < w1.heap.size := by have := hg.2.2; simp at this; omega
        go_wp2_with fail
        exact bodyPost_ret (v := .tuple #[pv 0 0, .bool false]) (by simp [results, Tryd.results16, go_sem, hc]) rfl ⟨rfl, ((grown_trans (((Grown.refl _).alloc _ _).alloc _ _) hg).setCell (by simp) _).setCell (by simp) _⟩
    · cases hv : Cal.validB k s
      all_goals
        have HV := Lib.hid hv
        clear hv
        go_enter Tryd.func16, Tryd.ntmps16
        go_wp2_with fail
        first | (refine (valid_gra_no _ _ _ HV.out).mono ?_; rintro e w1 ⟨rfl, hg⟩) | (refine (valid_gra_yes _ _ _ HV.out).mono ?_; rintro e w1 ⟨rfl, hg⟩)
        obtain ⟨hc, hf⟩ := gcell hg
        obtain ⟨hz', hz⟩ : w.heap.size < w1.heap.size ∧ w.heap.size + 1 < w1.heap.size := by have := hg.2.2; simp at this; omega
        go_wp2_with fail
        exact bodyPost_ret (v := .tuple #[pv 0 0, .bool false]) (by simp [results, Tryd.results16, go_sem, hc]) rfl ⟨rfl, ((grown_trans (((Grown.refl _).alloc _ _).alloc _ _) hg).setCell (by simp) _).setCell (by simp) _⟩
    · have HV := Lib.hid c1
      have c5 : 1000000 ≤ Cal.fst k s i := by omega
      clear c1 c4
      go_enter Tryd.func16, Tryd.ntmps16
      go_wp2_with fail
      refine (valid_gra_yes _ _ _ HV.out).mono ?_; rintro e w1 ⟨rfl, hg⟩
      obtain ⟨hc, hf⟩ := gcell hg
      obtain ⟨hz', hz⟩ : w.heap.size < w1.heap.size ∧ w.heap.size + 1 < w1.heap.size := by have := hg.2.2; simp at this; omega
      have HT1 := Lib.hid (HT.out.grown hg)
      go_wp2_with fail
      refine (fst_gra _ _ _ _ HT1.out HV.out c2 (by omega)).mono ?_; rintro e w2 ⟨rfl, hg2⟩
      obtain ⟨hc2, hf2⟩ := gcell hg2
      obtain ⟨hz2', hz2⟩ : w.heap.size < w2.heap.size ∧ w.heap.size + 1 < w2.heap.size := by have := hg2.2.2; omega
      go_wp2_with fail
      exact bodyPost_ret (v := .tuple #[pv 0 0, .bool false]) (by simp [results, Tryd.results16, go_sem, hc, hc2, hz]) rfl ⟨rfl, ((grown_trans (grown_trans (((Grown.refl _).alloc _ _).alloc _ _) hg) hg2).setCell (by simp) _).setCell (by simp) _⟩
  · obtain ⟨v, c2, c3, c4, f, t⟩ := sp_yes hb
    rw [f, t]
    have HV := Lib.hid v
    have hb1 := Cal.fst_bd v c2
    have hb2 := Cal.fst_bd v (i := i + 1) (by omega)
    clear hb f t v
    go_enter Tryd.func16, Tryd.ntmps16
    go_wp2_with fail
    refine (valid_gra_yes _ _ _ HV.out).mono ?_; rintro e w1 ⟨rfl, hg⟩
    obtain ⟨hc, hf⟩ := gcell hg
    obtain ⟨hz', hz⟩ : w.heap.size < w1.heap.size ∧ w.heap.size + 1 < w1.heap.size := by have := hg.2.2; simp at this; omega
    have HT1 := Lib.hid (HT.out.grown hg)
    go_wp2_with fail
    refine (fst_gra _ _ _ _ HT1.out HV.out c2 (by omega)).mono ?_; rintro e w2 ⟨rfl, hg2⟩
    obtain ⟨hc2, hf2⟩ := gcell hg2
    obtain ⟨hz2', hz2⟩ : w.heap.size < w2.heap.size ∧ w.heap.size + 1 < w2.heap.size := by have := hg2.2.2; omega
    have HT2 := Lib.hid (HT1.out.grown hg2)
    go_wp2_with fail
    refine (fst_gra _ _ _ _ HT2.out HV.out (by omega) (by omega)).mono ?_; rintro e w3 ⟨rfl, hg3⟩
    obtain ⟨hc3, hf3⟩ := gcell hg3
    have hz3 : w.heap.size + 1 < w3.heap.size := by have := hg3.2.2; omega
    go_wp2_with fail
    exact bodyPost_ret (v := .tuple #[pv (Cal.fst k s i) (Cal.fst k s (i + 1)), .bool true]) (by simp [results, Tryd.results16, go_sem, hc, hc2, hc3, hz, hz2]) rfl ⟨rfl, ((grown_trans (grown_trans (grown_trans (((Grown.refl _).alloc _ _).alloc _ _) hg) hg2) hg3).setCell (by simp) _).setCell (by simp) _⟩
end Go.Proofs.YtjphkgnngkbgcaaDoor
