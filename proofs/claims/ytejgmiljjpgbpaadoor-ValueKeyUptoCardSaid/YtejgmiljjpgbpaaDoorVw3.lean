/- Format, of the program and of the reference. -/
import Derived.Test.YtejgmiljjpgbpaaDoorVw2
import Derived.Lib.CountLaws
namespace Go.Proofs.YtejgmiljjpgbpaaDoor
open Go.ChangeShapes Go.WideShapes Go.ChangeAt Go.RowKit

/-- what the library's variables hold -/
def GE (w : World) : Prop := PT w ∧ (∃ m, w.cell? ⟨0, 0, none⟩ = some (.int .i64 m)) ∧ ∃ ev, w.cell? ⟨5, 0, none⟩ = some ev ∧ (ev = .nilIface ∨ ∃ te pe, ev = .iface te pe)
theorem GE.ext {w w' : World} (h : GE w) (g : Ext w w') : GE w' := by
  obtain ⟨h1, ⟨m, h2⟩, ev, h3, h4⟩ := h
  exact ⟨h1.ext g, ⟨m, g.keeps h2⟩, ev, g.keeps h3, h4⟩
theorem vlv_yes (v : V) (w : World) (h : vldB v = true) : Calls Tryd.prog 12 #[vv v] w fun e w' => e = .returned (.bool true) ∧ Grown w w' := by
  have := vld_val v w; rwa [h] at this
theorem vlv_no (v : V) (w : World) (h : vldB v = false) : Calls Tryd.prog 12 #[vv v] w fun e w' => e = .returned (.bool false) ∧ Grown w w' := by
  have := vld_val v w; rwa [h] at this
theorem vlr_yes (v : V) (w : World) (h : vldB v = true) : Calls Tryd.prog 13 #[vv v] w fun e w' => e = .returned (.bool true) ∧ Grown w w' := by
  have := vld_ref v w; rwa [h] at this
theorem vlr_no (v : V) (w : World) (h : vldB v = false) : Calls Tryd.prog 13 #[vv v] w fun e w' => e = .returned (.bool false) ∧ Grown w w' := by
  have := vld_ref v w; rwa [h] at this
/-- strings.ReplaceAll(s, "'", "''") -/
theorem rep_call (s : List UInt8) (w : World) (hG : GE w) (hs : s.length ≤ 200) : Calls Tryd.prog 27 #[sv s, .string ⟨#[39]⟩, .string ⟨#[39, 39]⟩] w fun e w' => e = .returned (sv (dbl s)) ∧ Ext w w' := by
  obtain ⟨_, ⟨m, hm⟩, _⟩ := hG
  have hsz : (⟨s.toArray⟩ : ByteArray).size = s.length := by simp [ByteArray.size]
  have hcnt : Lib.countB ⟨s.toArray⟩ ⟨#[39]⟩ ≤ s.length + 1 := Lib.count_le s [39]
  have hn : (⟨#[39, 39]⟩ : ByteArray).size = 2 := rfl
  refine (Tryd.strings_ReplaceAll ⟨s.toArray⟩ ⟨#[39]⟩ ⟨#[39, 39]⟩ m w (by omega) hm (by decide) (by rw [hsz, hn]; omega)).mono ?_
  rintro e w' ⟨rfl, hb⟩
  exact ⟨ret_sv (replace_dbl s), ext_of_below hb⟩
theorem fi_call (n : Int) (w : World) (hG : GE w) (h0 : -9223372036854775808 ≤ n) (h1 : n ≤ 9223372036854775807) : Calls Tryd.prog 26 #[.int .i64 n, .int .i64 10] w fun e w' => e = .returned (sv (Lib.itoa n)) ∧ Ext w w' := by
  exact (Tryd.strconv_FormatInt_10 n h0 h1 w hG.1).mono fun e w' ⟨a, k, os, b⟩ => ⟨a, b ▸ ext_of_below (Lib.below_grow _ _ (Nat.le_refl _) _ _)⟩
set_option maxHeartbeats 2000000 in
set_option maxRecDepth 100000 in
theorem fmt_val (v : V) (w : World) (hG : GE w) (h0 : -9223372036854775808 ≤ v.n) (h1 : v.n ≤ 9223372036854775807) : Calls Tryd.prog 16 #[vv v] w fun e w' => e = .returned (sv (fmtV v)) ∧ Ext w w' := by
  obtain ⟨k, n, s⟩ := v
  simp only at h0 h1
  have hG1 : ∀ w1, Grown (w.alloc (.cells #[.int .i64 k, .int .i64 n, sv s] 23)) w1 → GE w1 := fun w1 hg => hG.ext (ext_of_grown (grown_trans ((Grown.refl _).alloc _ _) hg))
  have HG1 := Lib.hid hG1
  clear hG1
  cases hv : vldB ⟨k, n, s⟩
  · have HV := Lib.hid hv
    have HR := Lib.hid (show fmtV ⟨k, n, s⟩ = [] by unfold fmtV; rw [hv]; rfl)
    clear hv
    go_enter Tryd.func16, Tryd.ntmps16
    go_wp2_with fail
    refine (vlv_no ⟨k, n, s⟩ _ HV.out).mono ?_; rintro e w1 ⟨rfl, hg⟩
    go_wp2_with fail
    go_ret
    exact ⟨ret_sv HR.out.symm, ext_of_grown (grown_trans ((Grown.refl _).alloc _ _) hg)⟩
  · have HV := Lib.hid hv
    have hv' := hv
    unfold vldB at hv
    simp only [decide_eq_true_eq] at hv
    rcases hv with ⟨rfl, rfl, rfl⟩ | ⟨rfl, rfl⟩ | ⟨rfl, rfl, hs⟩ | ⟨rfl, rfl | rfl, rfl⟩
    · clear hv'
      go_enter Tryd.func16, Tryd.ntmps16
      go_wp2_with fail
      refine (vlv_yes ⟨0, 0, []⟩ _ HV.out).mono ?_; rintro e w1 ⟨rfl, hg⟩
      obtain ⟨hc, hf⟩ := gcell hg
      go_wp2_with fail
      go_ret
      exact ⟨rfl, ext_of_grown (grown_trans ((Grown.refl _).alloc _ _) hg)⟩
    · have HR := Lib.hid (show fmtV ⟨1, n, []⟩ = Lib.itoa n by unfold fmtV; rw [if_pos hv']; rfl)
      clear hv'
      go_enter Tryd.func16, Tryd.ntmps16
      go_wp2_with fail
      refine (vlv_yes ⟨1, n, []⟩ _ HV.out).mono ?_; rintro e w1 ⟨rfl, hg⟩
      obtain ⟨hc, hf⟩ := gcell hg
      go_wp2_with fail
      refine (fi_call n w1 (HG1.out w1 hg) h0 h1).mono ?_; rintro e w2 ⟨rfl, hx⟩
      go_wp2_with fail
      go_ret
      exact ⟨ret_sv HR.out.symm, (ext_of_grown (grown_trans ((Grown.refl _).alloc _ _) hg)).trans hx⟩
    · have HR := Lib.hid (show fmtV ⟨2, 0, s⟩ = 39 :: (dbl s ++ [39]) by unfold fmtV; rw [if_pos hv']; rfl)
      have hdl := (dbl_len s).2
      clear hv'
      go_enter Tryd.func16, Tryd.ntmps16
      go_wp2_with fail
      refine (vlv_yes ⟨2, 0, s⟩ _ HV.out).mono ?_; rintro e w1 ⟨rfl, hg⟩
      obtain ⟨hc, hf⟩ := gcell hg
      go_wp2_with fail
      refine (rep_call s w1 (HG1.out w1 hg) hs).mono ?_; rintro e w2 ⟨rfl, hx⟩
      go_wp2_with fail
      go_ret
      exact ⟨ret_sv (by rw [HR.out]; simp), (ext_of_grown (grown_trans ((Grown.refl _).alloc _ _) hg)).trans hx⟩
    all_goals
      clear hv'
      go_enter Tryd.func16, Tryd.ntmps16
      go_wp2_with fail
      refine (vlv_yes ⟨3, _, []⟩ _ HV.out).mono ?_; rintro e w1 ⟨rfl, hg⟩
      obtain ⟨hc, hf⟩ := gcell hg
      go_wp2_with fail
      go_ret
      exact ⟨rfl, ext_of_grown (grown_trans ((Grown.refl _).alloc _ _) hg)⟩
end Go.Proofs.YtejgmiljjpgbpaaDoor
