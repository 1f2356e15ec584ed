/- Contracts of the reference's IndexOf, firstDay and Span. -/
import Derived.Test.YtjphkgnngkbgcaaDoorGr1
import Derived.Deep.RegionWith
namespace Go.Proofs.YtjphkgnngkbgcaaDoor
open Go.ChangeShapes Go.WideShapes Go.ChangeAt Go.RowKit

set_option maxHeartbeats 2000000 in
theorem idx_ref_no (k s n : Int) (w : World) (h : Cal.validB k s = false ∨ Cal.isDayB n = false) :
    Calls Tryd.prog 12 #[gv k s, .int .i64 n] w fun e w' => e = .returned (.tuple #[.int .i64 0, .bool false]) ∧ Grown w w' := by
  cases hv : Cal.validB k s
  · have HV := Lib.hid hv
    clear hv h
    go_enter Tryd.func12, Tryd.ntmps12
    go_wp2_with fail
    refine (valid_ref_no _ _ _ HV.out).mono ?_; rintro e w1 ⟨rfl, hg⟩
    obtain ⟨hc, hf⟩ := gcell hg
    go_wp2_with fail
    go_ret2
    exact ⟨rfl, grown_trans ((Grown.refl _).alloc _ _) hg⟩
  · have HD := Lib.hid (show ¬ (0 ≤ n ∧ n < 1000000) by
      rw [hv] at h
      have h' : Cal.isDayB n = false := by simpa using h
      intro k; rw [(Cal.isDay_iff n).2 k] at h'; cases h')
    have HV := Lib.hid hv
    clear hv h
    go_enter Tryd.func12, Tryd.ntmps12
    go_wp2_with fail
    refine (valid_ref_yes _ _ _ HV.out).mono ?_; rintro e w1 ⟨rfl, hg⟩
    obtain ⟨hc, hf⟩ := gcell hg
    go_wp2_with fail
    refine (isday_ref_no _ _ HD.out).mono ?_; rintro e w' ⟨rfl, rfl⟩
    go_wp2_with fail
    go_ret2
    exact ⟨rfl, grown_trans ((Grown.refl _).alloc _ _) hg⟩

set_option maxHeartbeats 2000000 in
theorem idx_ref_yes (k s n : Int) (w : World) (hv : Cal.validB k s = true) (h0 : 0 ≤ n) (h1 : n < 1000000) :
    Calls Tryd.prog 12 #[gv k s, .int .i64 n] w fun e w' => e = .returned (.tuple #[.int .i64 (Cal.idx k s n), .bool true]) ∧ Grown w w' := by
  have HV := Lib.hid hv
  have b0 := Cal.idx_nonneg hv h0 h1
  have b1 : Cal.idx k s n ≤ 1000000 := by
    have := Cal.idx_le hv n.toNat (by omega)
    rw [show ((n.toNat : Nat) : Int) = n by omega] at this; omega
  clear hv
  go_enter Tryd.func12, Tryd.ntmps12
  go_wp2_with fail
  refine (valid_ref_yes _ _ _ HV.out).mono ?_; rintro e w1 ⟨rfl, hg⟩
  obtain ⟨hc, hf⟩ := gcell hg
  go_wp2_with fail
  refine (isday_ref_yes _ _ h0 h1).mono ?_; rintro e w' ⟨rfl, rfl⟩
  go_wp2_with fail
  refine (su_ref _ _ _ _ HV.out h0 h1).mono ?_; rintro e w2 ⟨rfl, hg2⟩
  go_wp2_with fail
  go_ret2
  exact ⟨ret_ib (by omega) rfl, grown_trans (grown_trans ((Grown.refl _).alloc _ _) hg) hg2⟩

theorem idx_bd {k s n : Int} (hv : Cal.validB k s = true) (h0 : 0 ≤ n) (h1 : n < 1000000) : 0 ≤ Cal.idx k s n ∧ Cal.idx k s n ≤ n := by
  refine ⟨Cal.idx_nonneg hv h0 h1, ?_⟩
  have := Cal.idx_le hv n.toNat (by omega)
  rwa [show ((n.toNat : Nat) : Int) = n by omega] at this

set_option maxHeartbeats 2000000 in
theorem fst_ref (k s i : Int) (w : World) (hv : Cal.validB k s = true) (h0 : 0 ≤ i) :
    Calls Tryd.prog 30 #[gv k s, .int .i64 i] w fun e w' => e = .returned (.int .i64 (Cal.fst k s i)) ∧ Grown w w' := by
  have HV := Lib.hid hv
  have hb := Cal.fst_bd hv h0
  clear hv
  go_enter Tryd.func30, Tryd.ntmps30
  go_wp2_with fail
  go_loopw [5, 6] (fun lo hi wr => ∃ a b : Int, 0 ≤ a ∧ a ≤ Cal.fst k s i ∧ Cal.fst k s i ≤ b ∧ b ≤ 1000000 ∧ lo = .int .i64 a ∧ hi = .int .i64 b ∧ Grown (w.alloc (.cells #[.int .i64 k, .int .i64 s] 23)) wr) (fun lo hi _ => (intOf hi - intOf lo).toNat)
  case atStart => exact ⟨0, 1000000, by omega, by omega, by omega, by omega, rfl, rfl, Grown.refl _⟩
  case round =>
    obtain ⟨a, b, a0, a1, b1, b2, rfl, rfl, hg⟩ := hrel
    rename_i wr
    obtain ⟨hc, hf⟩ := gcell hg
    obtain hz : w.heap.size < wr.heap.size := by have := hg.2.2; simp at this; omega
    by_cases hlt : a < b
    · have hm0 : 0 ≤ (a + b) / 2 := by omega
      have hm1 : (a + b) / 2 < 1000000 := by omega
      have hbm := idx_bd HV.out hm0 hm1
      have hgal := Cal.fst_gal HV.out h0 hm0 hm1
      by_cases hi : i ≤ Cal.idx k s ((a + b) / 2)
      · have hle := hgal.1 hi
        clear hgal
        go_wp2_with fail
        refine (su_ref _ _ _ _ HV.out hm0 hm1).mono ?_; rintro e w2 ⟨rfl, hg2⟩
        go_wp2_with fail
        go_roundw
        case rel => exact ⟨a, (a + b) / 2, by omega, by omega, by omega, by omega, rfl, rfl, grown_trans hg hg2⟩
        case measure => simp [intOf]; omega
      · have hle : ¬ Cal.fst k s i ≤ (a + b) / 2 := fun e => hi (hgal.2 e)
        clear hgal
        go_wp2_with fail
        refine (su_ref _ _ _ _ HV.out hm0 hm1).mono ?_; rintro e w2 ⟨rfl, hg2⟩
        go_wp2_with fail
        go_roundw
        case rel => exact ⟨(a + b) / 2 + 1, b, by omega, by omega, by omega, by omega, rfl, rfl, grown_trans hg hg2⟩
        case measure => simp [intOf]; omega
    · go_wp2_with fail
      go_ret
      exact ⟨ret_int (by omega), grown_trans ((Grown.refl _).alloc _ _) hg⟩
end Go.Proofs.YtjphkgnngkbgcaaDoor
