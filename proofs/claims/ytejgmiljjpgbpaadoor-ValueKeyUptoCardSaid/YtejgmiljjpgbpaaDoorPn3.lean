/- The program's parseText and Parse. -/
import Derived.Test.YtejgmiljjpgbpaaDoorPn2
namespace Go.Proofs.YtejgmiljjpgbpaaDoor
open Go.ChangeShapes Go.WideShapes Go.ChangeAt Go.RowKit

theorem unq_any (l : List UInt8) (w : World) (hl : l.length ≤ 4000) : Calls Tryd.prog 42 #[sv l] w (UnqT ((qin l).bind unq) w) := by
  cases h : qin l with
  | none => exact unq_none l w hl h
  | some i => exact unq_some l i w hl h
theorem txt_none (l : List UInt8) (h : (qin l).bind unq = none) : txtV l = (⟨0, 0, []⟩, 5) := by
  unfold txtV
  cases hq : qin l with
  | none => rfl
  | some i => rw [hq] at h; simp only [Option.bind_some] at h; simp only [h]
theorem txt_some (l s : List UInt8) (h : (qin l).bind unq = some s) : txtV l = if s.length ≤ 200 then (⟨2, 0, s⟩, 0) else (⟨0, 0, []⟩, 4) := by
  unfold txtV
  cases hq : qin l with
  | none => rw [hq] at h; cases h
  | some i => rw [hq] at h; simp only [Option.bind_some] at h; simp only [h]
set_option maxHeartbeats 1000000 in
theorem ptext_val (l : List UInt8) (w : World) (hl : l.length ≤ 4000) : Calls Tryd.prog 32 #[sv l] w fun e w' => e = .returned (.tuple #[vv (txtV l).1, .int .i64 (txtV l).2]) ∧ Ext w w' := by
  have hu := unq_any l (w.alloc (.cells #[.int .i64 0, .int .i64 0, .string ⟨#[]⟩] 23)) hl
  cases h : (qin l).bind unq with
  | none =>
    rw [txt_none l h]
    rw [h] at hu
    have HU := Lib.hid hu
    clear h hu
    go_enter Tryd.func32, Tryd.ntmps32
    go_wp2_with fail
    refine HU.out.mono ?_; rintro e w1 ⟨rfl, hE⟩
    obtain ⟨k0, k1, k2, kf, hz, hW⟩ := res3 hE
    go_wp2_with fail
    exact bodyPost_ret (v := .tuple #[vv ⟨0, 0, []⟩, .int .i64 5]) (by simp [results, Tryd.results32, go_sem, k0, k1, k2]) rfl ⟨rfl, ((hW.setNew _ _ (Nat.le_refl _) _).setNew _ _ (Nat.le_refl _) _).setNew _ _ (Nat.le_refl _) _⟩
  | some s =>
    rw [txt_some l s h]
    rw [h] at hu
    have HU := Lib.hid hu
    clear h hu
    by_cases h2 : s.length ≤ 200
    · rw [if_pos h2]
      go_enter Tryd.func32, Tryd.ntmps32
      go_wp2_with fail
      refine HU.out.mono ?_; rintro e w1 ⟨rfl, hE⟩
      obtain ⟨k0, k1, k2, kf, hz, hW⟩ := res3 hE
      go_wp2_with fail
      exact bodyPost_ret (v := .tuple #[vv ⟨2, 0, s⟩, .int .i64 0]) (by simp [results, Tryd.results32, go_sem, k0, k1, k2]) rfl ⟨rfl, ((hW.setNew _ _ (Nat.le_refl _) _).setNew _ _ (Nat.le_refl _) _).setNew _ _ (Nat.le_refl _) _⟩
    · rw [if_neg h2]
      go_enter Tryd.func32, Tryd.ntmps32
      go_wp2_with fail
      refine HU.out.mono ?_; rintro e w1 ⟨rfl, hE⟩
      obtain ⟨k0, k1, k2, kf, hz, hW⟩ := res3 hE
      go_wp2_with fail
      exact bodyPost_ret (v := .tuple #[vv ⟨0, 0, []⟩, .int .i64 4]) (by simp [results, Tryd.results32, go_sem, k0, k1, k2]) rfl ⟨rfl, ((hW.setNew _ _ (Nat.le_refl _) _).setNew _ _ (Nat.le_refl _) _).setNew _ _ (Nat.le_refl _) _⟩
set_option maxHeartbeats 2000000 in
theorem prs_val (l : List UInt8) (w : World) (hG : GE w) (hl : l.length ≤ 4000) : Calls Tryd.prog 20 #[sv l] w fun e w' => e = .returned (.tuple #[vv (prsV l).1, .int .i64 (prsV l).2]) ∧ Ext w w' := by
  by_cases h1 : l = nullL
  · subst h1
    rw [show prsV nullL = (⟨0, 0, []⟩, 0) from rfl]
    unfold nullL
    go_enter Tryd.func20, Tryd.ntmps20
    go_wp2_with fail
    exact bodyPost_ret (v := .tuple #[vv ⟨0, 0, []⟩, .int .i64 0]) (by simp [results, Tryd.results20, go_sem]) rfl ⟨rfl, (Ext.refl _).alloc _ _⟩
  by_cases h2 : l = trueL
  · subst h2
    rw [show prsV trueL = (⟨3, 1, []⟩, 0) from rfl]
    unfold trueL
    go_enter Tryd.func20, Tryd.ntmps20
    go_wp2_with fail
    exact bodyPost_ret (v := .tuple #[vv ⟨3, 1, []⟩, .int .i64 0]) (by simp [results, Tryd.results20, go_sem]) rfl ⟨rfl, (Ext.refl _).alloc _ _⟩
  by_cases h3 : l = falseL
  · subst h3
    rw [show prsV falseL = (⟨3, 0, []⟩, 0) from rfl]
    unfold falseL
    go_enter Tryd.func20, Tryd.ntmps20
    go_wp2_with fail
    exact bodyPost_ret (v := .tuple #[vv ⟨3, 0, []⟩, .int .i64 0]) (by simp [results, Tryd.results20, go_sem]) rfl ⟨rfl, (Ext.refl _).alloc _ _⟩
  have b1 : (l == [110, 117, 108, 108]) = false := beq_eq_false_iff_ne.2 h1
  have b2 : (l == [116, 114, 117, 101]) = false := beq_eq_false_iff_ne.2 h2
  have b3 : (l == [102, 97, 108, 115, 101]) = false := beq_eq_false_iff_ne.2 h3
  cases h4 : numF l
  · obtain ⟨v, hv⟩ : ∃ v, v = txtV l := ⟨_, rfl⟩
    have e : prsV l = v := by unfold prsV; rw [if_neg h1, if_neg h2, if_neg h3, h4, hv]; rfl
    rw [e]
    have HP := Lib.hid (show Calls Tryd.prog 32 #[sv l] (w.alloc (.cells #[.int .i64 0, .int .i64 0, .string ⟨#[]⟩] 23)) fun e w' => e = .returned (.tuple #[vv v.1, .int .i64 v.2]) ∧ Ext (w.alloc (.cells #[.int .i64 0, .int .i64 0, .string ⟨#[]⟩] 23)) w' by rw [hv]; exact ptext_val l _ hl)
    have H4 := Lib.hid h4
    obtain ⟨⟨vk, vn, vs⟩, ve⟩ := v
    clear h1 h2 h3 h4 hv e
    go_enter Tryd.func20, Tryd.ntmps20
    go_wp2_with fail
    refine (nf_no l _ hl H4.out).mono ?_; rintro e w1 ⟨rfl, rfl⟩
    go_wp2_with fail
    refine HP.out.mono ?_; rintro e w1 ⟨rfl, hE⟩
    obtain ⟨k0, k1, k2, kf, hz, hW⟩ := res3 hE
    go_wp2_with fail
    exact bodyPost_ret (v := .tuple #[vv ⟨vk, vn, vs⟩, .int .i64 ve]) (by simp [results, Tryd.results20, go_sem, k0, k1, k2]) rfl ⟨rfl, ((hW.setNew _ _ (Nat.le_refl _) _).setNew _ _ (Nat.le_refl _) _).setNew _ _ (Nat.le_refl _) _⟩
  · obtain ⟨v, hv⟩ : ∃ v, v = intV l := ⟨_, rfl⟩
    have e : prsV l = v := by rw [prs_num l h4, hv]
    rw [e]
    have HP := Lib.hid (show Calls Tryd.prog 31 #[sv l] (w.alloc (.cells #[.int .i64 0, .int .i64 0, .string ⟨#[]⟩] 23)) fun e w' => e = .returned (.tuple #[vv v.1, .int .i64 v.2]) ∧ Ext (w.alloc (.cells #[.int .i64 0, .int .i64 0, .string ⟨#[]⟩] 23)) w' by rw [hv]; exact pint_val l _ (hG.ext ((Ext.refl _).alloc _ _)) hl h4)
    have H4 := Lib.hid h4
    obtain ⟨⟨vk, vn, vs⟩, ve⟩ := v
    clear h1 h2 h3 h4 hv e
    go_enter Tryd.func20, Tryd.ntmps20
    go_wp2_with fail
    refine (nf_yes l _ hl H4.out).mono ?_; rintro e w1 ⟨rfl, rfl⟩
    go_wp2_with fail
    refine HP.out.mono ?_; rintro e w1 ⟨rfl, hE⟩
    obtain ⟨k0, k1, k2, kf, hz, hW⟩ := res3 hE
    go_wp2_with fail
    exact bodyPost_ret (v := .tuple #[vv ⟨vk, vn, vs⟩, .int .i64 ve]) (by simp [results, Tryd.results20, go_sem, k0, k1, k2]) rfl ⟨rfl, ((hW.setNew _ _ (Nat.le_refl _) _).setNew _ _ (Nat.le_refl _) _).setNew _ _ (Nat.le_refl _) _⟩
end Go.Proofs.YtejgmiljjpgbpaaDoor
