/- Contracts of granule's firstDay, Span and Covering. -/
import Derived.Test.YtjphkgnngkbgcaaDoorGw3
namespace Go.Proofs.YtjphkgnngkbgcaaDoor
open Go.ChangeShapes Go.WideShapes Go.ChangeAt Go.RowKit

theorem fdm_yes (K d : Int) (w : World) (hK : 0 ≤ K) (hK2 : K ≤ 100000000) (d1 : 1 ≤ d) (d2 : d ≤ 28) (h : Cal.mFst K d < 1000000) :
    Calls Tryd.prog 36 #[.int .i64 (1600 + K / 12), .int .i64 (K % 12 + 1), .int .i64 d] w fun e w' => e = .returned (.tuple #[.int .i64 (Cal.mFst K d), .bool true]) ∧ w = w' := by
  have hp := Cal.dim_pos (1600 + K / 12) (K % 12 + 1) (by omega) (by omega)
  have e : Cal.fdB (1600 + K / 12) (K % 12 + 1) d = true := (Cal.fdB_iff _ _ _).2 ⟨by omega, d1, by omega, h⟩
  have := fd_civ (1600 + K / 12) (K % 12 + 1) d w (by omega)
  rwa [e, Cal.fdV_yes e] at this
theorem fdm_no (K d : Int) (w : World) (hK : 0 ≤ K) (hK2 : K ≤ 100000000) (h : 1000000 ≤ Cal.mFst K d) :
    Calls Tryd.prog 36 #[.int .i64 (1600 + K / 12), .int .i64 (K % 12 + 1), .int .i64 d] w fun e w' => e = .returned (.tuple #[.int .i64 0, .bool false]) ∧ w = w' := by
  have e : Cal.fdB (1600 + K / 12) (K % 12 + 1) d = false := Cal.fd_no (by unfold Cal.mFst at h; omega)
  have := fd_civ (1600 + K / 12) (K % 12 + 1) d w (by omega)
  rwa [e, Cal.fdV_no e] at this

theorem fdm_yes12 (i l d : Int) (w : World) (hK : 0 ≤ i * 12 - l) (hK2 : i * 12 - l ≤ 100000000) (d1 : 1 ≤ d) (d2 : d ≤ 28) (h : Cal.mFst (i * 12 - l) d < 1000000) :
    Calls Tryd.prog 36 #[.int .i64 (1600 + (i * 12 - l) / 12), .int .i64 (-l % 12 + 1), .int .i64 d] w fun e w' => e = .returned (.tuple #[.int .i64 (Cal.mFst (i * 12 - l) d), .bool true]) ∧ w = w' := by
  have := fdm_yes (i * 12 - l) d w hK hK2 d1 d2 h
  rwa [show (i * 12 - l) % 12 = -l % 12 by omega] at this
theorem fdm_no12 (i l d : Int) (w : World) (hK : 0 ≤ i * 12 - l) (hK2 : i * 12 - l ≤ 100000000) (h : 1000000 ≤ Cal.mFst (i * 12 - l) d) :
    Calls Tryd.prog 36 #[.int .i64 (1600 + (i * 12 - l) / 12), .int .i64 (-l % 12 + 1), .int .i64 d] w fun e w' => e = .returned (.tuple #[.int .i64 0, .bool false]) ∧ w = w' := by
  have := fdm_no (i * 12 - l) d w hK hK2 h
  rwa [show (i * 12 - l) % 12 = -l % 12 by omega] at this

def mFK (K d : Int) : Int := if K < 0 then 0 else min (Cal.mFst K d) 1000000
set_option maxHeartbeats 2000000 in
theorem fst_gra_m (k s i u d l K : Int) (w : World) (hu : u = 1 ∧ i - l = K ∨ u = 3 ∧ i * 3 - l = K ∨ u = 12 ∧ i * 12 - l = K)
    (hU : ∀ w, Calls Tryd.prog 27 #[gv k s] w fun e w' => e = .returned (.agg #[.int .i64 u, .int .i64 d, .int .i64 l]) ∧ Grown w w')
    (k1 : (k == 1) = false) (k2 : (k == 2) = false) (h0 : 0 ≤ i) (h1 : i ≤ 1000000) (d1 : 1 ≤ d) (d2 : d ≤ 28) (l0 : 0 ≤ l) (l1 : l ≤ 12) :
    Calls Tryd.prog 29 #[gv k s, .int .i64 i] w fun e w' => e = .returned (.int .i64 (mFK K d)) ∧ Grown w w' := by
  have HU := Lib.hid hU
  clear hU
  rcases hu with ⟨rfl, rfl⟩ | ⟨rfl, rfl⟩ | ⟨rfl, rfl⟩
  · by_cases c : i - l < 0
    · have HF := Lib.hid (show mFK (i - l) d = 0 by unfold mFK; rw [if_pos c])
      go_enter Tryd.func29, Tryd.ntmps29
      go_wp2_with fail
      refine (HU.out _).mono ?_; rintro e w2 ⟨rfl, hg2⟩
      obtain ⟨hc2, hf2⟩ := gcell hg2
      go_wp2_with fail
      go_ret
      exact ⟨ret_int HF.out.symm, (grown_trans ((Grown.refl _).alloc _ _) hg2).alloc _ _⟩
    · have c' : 0 ≤ i - l := by omega
      by_cases c2 : Cal.mFst (i - l) d < 1000000
      · have HF := Lib.hid (show mFK (i - l) d = Cal.mFst (i - l) d by unfold mFK; rw [if_neg c]; omega)
        clear c
        go_enter Tryd.func29, Tryd.ntmps29
        go_wp2_with fail
        refine (HU.out _).mono ?_; rintro e w2 ⟨rfl, hg2⟩
        obtain ⟨hc2, hf2⟩ := gcell hg2
        go_wp2_with fail
        refine (fdm_yes (i - l) d _ c' (by omega) d1 d2 c2).mono ?_; rintro e w' ⟨rfl, rfl⟩
        go_wp2_with fail
        go_ret
        exact ⟨ret_int HF.out.symm, (grown_trans ((Grown.refl _).alloc _ _) hg2).alloc _ _⟩
      · have HF := Lib.hid (show mFK (i - l) d = 1000000 by unfold mFK; rw [if_neg c]; omega)
        clear c
        go_enter Tryd.func29, Tryd.ntmps29
        go_wp2_with fail
        refine (HU.out _).mono ?_; rintro e w2 ⟨rfl, hg2⟩
        obtain ⟨hc2, hf2⟩ := gcell hg2
        go_wp2_with fail
        refine (fdm_no (i - l) d _ c' (by omega) (by omega)).mono ?_; rintro e w' ⟨rfl, rfl⟩
        go_wp2_with fail
        go_ret
        exact ⟨ret_int HF.out.symm, (grown_trans ((Grown.refl _).alloc _ _) hg2).alloc _ _⟩
  · by_cases c : i * 3 - l < 0
    · have HF := Lib.hid (show mFK (i * 3 - l) d = 0 by unfold mFK; rw [if_pos c])
      go_enter Tryd.func29, Tryd.ntmps29
      go_wp2_with fail
      refine (HU.out _).mono ?_; rintro e w2 ⟨rfl, hg2⟩
      obtain ⟨hc2, hf2⟩ := gcell hg2
      go_wp2_with fail
      go_ret
      exact ⟨ret_int HF.out.symm, (grown_trans ((Grown.refl _).alloc _ _) hg2).alloc _ _⟩
    · have c' : 0 ≤ i * 3 - l := by omega
      by_cases c2 : Cal.mFst (i * 3 - l) d < 1000000
      · have HF := Lib.hid (show mFK (i * 3 - l) d = Cal.mFst (i * 3 - l) d by unfold mFK; rw [if_neg c]; omega)
        clear c
        go_enter Tryd.func29, Tryd.ntmps29
        go_wp2_with fail
        refine (HU.out _).mono ?_; rintro e w2 ⟨rfl, hg2⟩
        obtain ⟨hc2, hf2⟩ := gcell hg2
        go_wp2_with fail
        refine (fdm_yes (i * 3 - l) d _ c' (by omega) d1 d2 c2).mono ?_; rintro e w' ⟨rfl, rfl⟩
        go_wp2_with fail
        go_ret
        exact ⟨ret_int HF.out.symm, (grown_trans ((Grown.refl _).alloc _ _) hg2).alloc _ _⟩
      · have HF := Lib.hid (show mFK (i * 3 - l) d = 1000000 by unfold mFK; rw [if_neg c]; omega)
        clear c
        go_enter Tryd.func29, Tryd.ntmps29
        go_wp2_with fail
        refine (HU.out _).mono ?_; rintro e w2 ⟨rfl, hg2⟩
        obtain ⟨hc2, hf2⟩ := gcell hg2
        go_wp2_with fail
        refine (fdm_no (i * 3 - l) d _ c' (by omega) (by omega)).mono ?_; rintro e w' ⟨rfl, rfl⟩
        go_wp2_with fail
        go_ret
        exact ⟨ret_int HF.out.symm, (grown_trans ((Grown.refl _).alloc _ _) hg2).alloc _ _⟩
  · by_cases c : i * 12 - l < 0
    · have HF := Lib.hid (show mFK (i * 12 - l) d = 0 by unfold mFK; rw [if_pos c])
      go_enter Tryd.func29, Tryd.ntmps29
      go_wp2_with fail
      refine (HU.out _).mono ?_; rintro e w2 ⟨rfl, hg2⟩
      obtain ⟨hc2, hf2⟩ := gcell hg2
      go_wp2_with fail
      go_ret
      exact ⟨ret_int HF.out.symm, (grown_trans ((Grown.refl _).alloc _ _) hg2).alloc _ _⟩
    · have c' : 0 ≤ i * 12 - l := by omega
      by_cases c2 : Cal.mFst (i * 12 - l) d < 1000000
      · have HF := Lib.hid (show mFK (i * 12 - l) d = Cal.mFst (i * 12 - l) d by unfold mFK; rw [if_neg c]; omega)
        clear c
        go_enter Tryd.func29, Tryd.ntmps29
        go_wp2_with fail
        refine (HU.out _).mono ?_; rintro e w2 ⟨rfl, hg2⟩
        obtain ⟨hc2, hf2⟩ := gcell hg2
        go_wp2_with fail
        refine (fdm_yes12 i l d _ c' (by omega) d1 d2 c2).mono ?_; rintro e w' ⟨rfl, rfl⟩
        go_wp2_with fail
        go_ret
        exact ⟨ret_int HF.out.symm, (grown_trans ((Grown.refl _).alloc _ _) hg2).alloc _ _⟩
      · have HF := Lib.hid (show mFK (i * 12 - l) d = 1000000 by unfold mFK; rw [if_neg c]; omega)
        clear c
        go_enter Tryd.func29, Tryd.ntmps29
        go_wp2_with fail
        refine (HU.out _).mono ?_; rintro e w2 ⟨rfl, hg2⟩
        obtain ⟨hc2, hf2⟩ := gcell hg2
        go_wp2_with fail
        refine (fdm_no12 i l d _ c' (by omega) (by omega)).mono ?_; rintro e w' ⟨rfl, rfl⟩
        go_wp2_with fail
        go_ret
        exact ⟨ret_int HF.out.symm, (grown_trans ((Grown.refl _).alloc _ _) hg2).alloc _ _⟩

set_option maxHeartbeats 2000000 in
theorem fst_gra (k s i : Int) (w : World) (hT : Tab w) (hv : Cal.validB k s = true) (h0 : 0 ≤ i) (h1 : i ≤ 1000000) :
    Calls Tryd.prog 29 #[gv k s, .int .i64 i] w fun e w' => e = .returned (.int .i64 (Cal.fst k s i)) ∧ Grown w w' := by
  by_cases k1 : k = 1
  · subst k1
    have e : Cal.fst 1 s i = i := Cal.fst_eq hv h0 ⟨h0, h1, fun n _ _ => by simp [Cal.idx], fun _ => by simp [Cal.idx]⟩
    rw [e]
    clear e hv hT
    go_enter Tryd.func29, Tryd.ntmps29
    go_wp2
    go_ret
    exact ⟨rfl, (Grown.refl _).alloc _ _⟩
  · by_cases k2 : k = 2
    · subst k2
      have hs : s = 0 := by rw [Cal.valid_iff] at hv; omega
      subst hs
      clear hv k1
      have HT := Lib.hid (hT.alloc #[.int .i64 2, .int .i64 0] 23)
      clear hT
      go_enter Tryd.func29, Tryd.ntmps29
      go_wp2_with fail
      refine (fdw_gra _ _ HT.out h0 h1).mono ?_; rintro e w' ⟨v, rfl, v0, v1, v2, rfl⟩
      have HF := Lib.hid v2
      clear v2
      go_wp2_with fail
      all_goals
        go_ret
        exact ⟨ret_int (by rw [← HF.out]; omega), (Grown.refl _).alloc _ _⟩
    · obtain ⟨⟨u1, u2⟩, ⟨d1, d2⟩, ⟨l0, l1⟩⟩ := unit_int hv k1 k2
      have e : Cal.fst k s i = mFK (i * Cal.uM k - Cal.uL k s) (Cal.uD k s) := Cal.fst_eq hv h0 (Cal.isFst_m hv k1 k2 h0)
      rw [e]
      refine fst_gra_m k s i (Cal.uM k) (Cal.uD k s) (Cal.uL k s) _ w ?_ (fun w => unit_gra k s w hv k1 k2) (bne_of k1) (bne_of k2) h0 h1 d1 d2 l0 l1
      rcases uM_three k with c | c | c <;> rw [c] <;> omega

abbrev pv (a b : Int) : Value := .agg #[.int .i64 a, .int .i64 b]
/-- there is a granule with this number -/
noncomputable def spB (k s i : Int) : Bool := open Classical in Cal.validB k s && decide (0 ≤ i) && decide (Cal.fst k s i < 1000000)
noncomputable def spF (k s i : Int) : Int := if spB k s i = true then Cal.fst k s i else 0
noncomputable def spT (k s i : Int) : Int := if spB k s i = true then Cal.fst k s (i + 1) else 0
theorem sp_yes {k s i : Int} (h : spB k s i = true) : Cal.validB k s = true ∧ 0 ≤ i ∧ i < 1000000 ∧ Cal.fst k s i < 1000000 ∧ spF k s i = Cal.fst k s i ∧ spT k s i = Cal.fst k s (i + 1) := by
  have h' := h
  simp only [spB, Bool.and_eq_true, decide_eq_true_eq] at h'
  obtain ⟨⟨a, b⟩, c⟩ := h'
  refine ⟨a, b, ?_, c, by simp [spF, h], by simp [spT, h]⟩
  by_cases d : i < 1000000
  · exact d
  · have := Cal.fst_big a (i := i) (by omega); omega
theorem sp_no {k s i : Int} (h : spB k s i = false) : spF k s i = 0 ∧ spT k s i = 0 ∧ (Cal.validB k s = false ∨ i < 0 ∨ 1000000 ≤ i ∨ Cal.validB k s = true ∧ 0 ≤ i ∧ i < 1000000 ∧ Cal.fst k s i = 1000000) := by
  refine ⟨by simp [spF, h], by simp [spT, h], ?_⟩
  cases hv : Cal.validB k s
  · exact Or.inl rfl
  · by_cases a : 0 ≤ i
    · by_cases b : i < 1000000
      · have hb := Cal.fst_bd hv a
        have : ¬ Cal.fst k s i < 1000000 := fun c => by simp [spB, hv, a, c] at h
        exact Or.inr (Or.inr (Or.inr ⟨rfl, a, b, by omega⟩))
      · exact Or.inr (Or.inr (Or.inl (by omega)))
    · exact Or.inr (Or.inl (by omega))

end Go.Proofs.YtjphkgnngkbgcaaDoor
