/- The walks of the laws GranuleMonotone and GranulePartition: each returns true at every input. -/
import Derived.Test.YtjphkgnngkbgcaaDoorGl2
namespace Go.Proofs.YtjphkgnngkbgcaaDoor
open Go.ChangeShapes Go.WideShapes Go.ChangeAt Go.RowKit

set_option maxHeartbeats 4000000 in
theorem law_GranuleMonotone (k s n : Int) (w : World) (hT : Tab w) :
    Calls Tryd.prog 9 #[gv k s, .int .i64 n] w fun e w' => e = .returned (.bool true) ∧ Grown w w' := by
  have HT := Lib.hid (hT.alloc #[.int .i64 k, .int .i64 s] 23)
  clear hT
  cases hv : Cal.validB k s
  · have HV := Lib.hid hv
    clear hv
    go_enter Tryd.func9, Tryd.ntmps9
    go_wp2_with fail
    refine (valid_ref_no _ _ _ HV.out).mono ?_; rintro e w1 ⟨rfl, hg⟩
    have HT1 := Lib.hid (HT.out.grown hg)
    go_wp2_with fail
    refine (awake_law _ HT1.out).mono ?_; rintro e w2 ⟨rfl, hg2⟩
    go_wp2_with fail
    go_ret
    exact ⟨rfl, grown_trans (grown_trans ((Grown.refl _).alloc _ _) hg) hg2⟩
  · have HV := Lib.hid hv
    by_cases hn : 0 ≤ n ∧ n < 999999
    · obtain ⟨n0, n1⟩ := hn
      have hs := Cal.idx_succ hv n0 (show n + 1 < 1000000 by omega)
      have b0 := idx_bd hv n0 (show n < 1000000 by omega)
      have hk1 : k = 1 → Cal.idx k s (n + 1) = Cal.idx k s n + 1 := fun h => by subst h; simp [Cal.idx]
      clear hv
      by_cases hk : k = 1
      · have hx := hk1 hk
        have HX := Lib.hid hx
        subst hk
        have hne : Cal.idx 1 s n + 1 ≠ Cal.idx 1 s n := by omega
        clear hs hk1 hx
        go_enter Tryd.func9, Tryd.ntmps9
        go_wp2_with fail
        refine (valid_ref_yes _ _ _ HV.out).mono ?_; rintro e w1 ⟨rfl, hg⟩
        obtain ⟨hc, hf⟩ := gcell hg
        have hz : w.heap.size < w1.heap.size := by have := hg.2.2; simp at this; omega
        have HT1 := Lib.hid (HT.out.grown hg)
        go_wp2_with fail
        refine (idx_gra_yes _ _ _ _ HT1.out HV.out n0 (by omega)).mono ?_; rintro e w2 ⟨rfl, hg2⟩
        obtain ⟨hc2, hf2⟩ := gcell hg2
        have hz2 : w.heap.size < w2.heap.size := by have := hg2.2.2; omega
        have HT2 := Lib.hid (HT1.out.grown hg2)
        go_wp2_with fail
        refine (idx_gra_yes _ _ _ _ HT2.out HV.out (by omega) (by omega)).mono ?_; rintro e w3 ⟨rfl, hg3⟩
        rw [HX.out]
        obtain ⟨hc3, hf3⟩ := gcell hg3
        have hz3 : w.heap.size < w3.heap.size := by have := hg3.2.2; omega
        have HT3 := Lib.hid (HT2.out.grown hg3)
        go_wp2_with fail
        refine (awake_law _ HT3.out).mono ?_; rintro e w4 ⟨rfl, hg4⟩
        obtain ⟨hc4, hf4⟩ := gcell hg4
        go_wp2_with fail
        go_ret
        exact ⟨ret_bool (by simp), grown_trans (grown_trans (grown_trans (grown_trans ((Grown.refl _).alloc _ _) hg) hg2) hg3) hg4⟩
      · have hkb : (k != 1) = true := by simp [hk]
        rcases hs with hx | hx
        all_goals
          have HX := Lib.hid hx
          clear hk1 hx
          go_enter Tryd.func9, Tryd.ntmps9
          go_wp2_with fail
          refine (valid_ref_yes _ _ _ HV.out).mono ?_; rintro e w1 ⟨rfl, hg⟩
          obtain ⟨hc, hf⟩ := gcell hg
          have hz : w.heap.size < w1.heap.size := by have := hg.2.2; simp at this; omega
          have HT1 := Lib.hid (HT.out.grown hg)
          go_wp2_with fail
          refine (idx_gra_yes _ _ _ _ HT1.out HV.out n0 (by omega)).mono ?_; rintro e w2 ⟨rfl, hg2⟩
          obtain ⟨hc2, hf2⟩ := gcell hg2
          have hz2 : w.heap.size < w2.heap.size := by have := hg2.2.2; omega
          have HT2 := Lib.hid (HT1.out.grown hg2)
          go_wp2_with fail
          refine (idx_gra_yes _ _ _ _ HT2.out HV.out (by omega) (by omega)).mono ?_; rintro e w3 ⟨rfl, hg3⟩
          rw [HX.out]
          obtain ⟨hc3, hf3⟩ := gcell hg3
          have hz3 : w.heap.size < w3.heap.size := by have := hg3.2.2; omega
          have HT3 := Lib.hid (HT2.out.grown hg3)
          go_wp2_with fail
          refine (awake_law _ HT3.out).mono ?_; rintro e w4 ⟨rfl, hg4⟩
          obtain ⟨hc4, hf4⟩ := gcell hg4
          go_wp2_with fail
          go_ret
          exact ⟨ret_bool (by simp), grown_trans (grown_trans (grown_trans (grown_trans ((Grown.refl _).alloc _ _) hg) hg2) hg3) hg4⟩
    · clear hv
      have hcs : n < 0 ∨ (0 ≤ n ∧ 999999 ≤ n) := by omega
      clear hn
      rcases hcs with hn | ⟨hn0, hn⟩
      all_goals
        go_enter Tryd.func9, Tryd.ntmps9
        go_wp2_with fail
        refine (valid_ref_yes _ _ _ HV.out).mono ?_; rintro e w1 ⟨rfl, hg⟩
        have HT1 := Lib.hid (HT.out.grown hg)
        go_wp2_with fail
        refine (awake_law _ HT1.out).mono ?_; rintro e w2 ⟨rfl, hg2⟩
        go_wp2_with fail
        go_ret
        exact ⟨rfl, grown_trans (grown_trans ((Grown.refl _).alloc _ _) hg) hg2⟩

/-- a granule by its bounds -/
theorem span_at (k s i a b : Int) (w : World) (hT : Tab w) (hv : Cal.validB k s = true) (h0 : 0 ≤ i) (ha : Cal.fst k s i = a) (hb : Cal.fst k s (i + 1) = b) (hl : a < 1000000) :
    Calls Tryd.prog 16 #[gv k s, .int .i64 i] w fun e w' => e = .returned (.tuple #[pv a b, .bool true]) ∧ Grown w w' := by
  have h : spB k s i = true := by simp [spB, hv, h0, ha, hl]
  have := span_gra_yes k s i w hT h
  obtain ⟨_, _, _, _, f, t⟩ := sp_yes h
  rwa [f, t, ha, hb] at this
theorem span_out (k s i : Int) (w : World) (hT : Tab w) (h : i < 0 ∨ 1000000 ≤ Cal.fst k s i) :
    Calls Tryd.prog 16 #[gv k s, .int .i64 i] w fun e w' => e = .returned (.tuple #[pv 0 0, .bool false]) ∧ Grown w w' := by
  have h' : spB k s i = false := by
    cases hb : spB k s i
    · rfl
    · obtain ⟨_, a, _, b, _, _⟩ := sp_yes hb; omega
  exact span_gra_no k s i w hT h'
end Go.Proofs.YtjphkgnngkbgcaaDoor
