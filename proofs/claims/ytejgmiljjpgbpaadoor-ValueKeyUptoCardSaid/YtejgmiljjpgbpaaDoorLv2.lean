/- The laws ValueUnique and ValueKey. -/
import Derived.Test.YtejgmiljjpgbpaaDoorLv1
namespace Go.Proofs.YtejgmiljjpgbpaaDoor
open Go.ChangeShapes Go.WideShapes Go.ChangeAt Go.RowKit

theorem prs_n (l : List UInt8) : -9223372036854775808 ≤ (prsV l).1.n ∧ (prsV l).1.n ≤ 9223372036854775807 := by
  unfold prsV
  split
  · simp
  split
  · simp
  split
  · simp
  split
  · rename_i h
    unfold intV
    cases hv : numV l with
    | none => simp
    | some n => have := itoa_numV l n h hv; exact this.2
  · unfold txtV
    split
    · simp
    · split
      · simp
      · split <;> simp
set_option maxHeartbeats 2000000 in
set_option maxRecDepth 100000 in
theorem law_ValueUnique (l : List UInt8) (w : World) (hG : GE w) (hl : l.length ≤ maxLen) : Calls Tryd.prog 8 #[sv l] w fun e w' => e = .returned (.bool true) ∧ Ext w w' := by
  have HG := Lib.hid hG
  unfold maxLen at hl
  by_cases hn : 1000 < l.length
  · clear hG
    go_enter Tryd.func8, Tryd.ntmps8
    go_wp2_with fail
    refine (awake_law w HG.out).mono ?_; rintro e w1 ⟨rfl, hE⟩
    go_wp2_with fail
    go_ret
    exact ⟨rfl, hE⟩
  have hp1 := prs_val l w hG (by omega)
  have hr := prs_n l
  have hf := fmt_prs l
  generalize prsV l = r at *
  obtain ⟨v, ve⟩ := r
  simp only at hp1 hr hf
  have K1 := Lib.hid hp1
  clear hp1 hG
  by_cases he : ve = 0
  · obtain ⟨f1, f2⟩ := hf he
    have HV := Lib.hid f1
    have HF := Lib.hid (fun x (h : GE x) => fmt_at v l x h hr.1 hr.2 f2)
    clear f1 f2 hf hr
    subst he
    obtain ⟨vk, vn, vs⟩ := v
    go_enter Tryd.func8, Tryd.ntmps8
    go_wp2_with fail
    refine K1.out.mono ?_; rintro e x1 ⟨rfl, hE1⟩
    have hB1 := Box.new x1 ⟨vk, vn, vs⟩
    have hF1 := hE1.alloc #[.int .i64 vk, .int .i64 vn, sv vs] 23
    go_wp2_with fail
    refine (awake_law _ (HG.out.ext hF1)).mono ?_; rintro e x2 ⟨rfl, hE2⟩
    have hB2 := hB1.ext hE2
    have hF2 := hF1.trans hE2
    obtain ⟨a0, a1, a2⟩ := cells_of hB2
    go_wp2_with fail
    refine (vlv_yes ⟨vk, vn, vs⟩ _ HV.out).mono ?_; rintro e x3 ⟨rfl, hg3⟩
    have hB3 := hB2.ext (ext_of_grown hg3)
    have hF3 := hF2.trans (ext_of_grown hg3)
    clear a0 a1 a2
    obtain ⟨a0, a1, a2⟩ := cells_of hB3
    go_wp2_with fail
    refine (HF.out x3 (HG.out.ext hF3)).mono ?_; rintro e x4 ⟨rfl, hE4⟩
    go_wp2_with fail
    go_ret
    exact ⟨ret_bool (by simp), hF3.trans hE4⟩
  · have he1 : (ve == 0) = false := by simpa using he
    clear hf hr
    obtain ⟨vk, vn, vs⟩ := v
    go_enter Tryd.func8, Tryd.ntmps8
    go_wp2_with fail
    refine K1.out.mono ?_; rintro e x1 ⟨rfl, hE1⟩
    have hF1 := hE1.alloc #[.int .i64 vk, .int .i64 vn, sv vs] 23
    go_wp2_with fail
    refine (awake_law _ (HG.out.ext hF1)).mono ?_; rintro e x2 ⟨rfl, hE2⟩
    go_wp2_with fail
    go_ret
    exact ⟨rfl, hF1.trans hE2⟩
set_option maxHeartbeats 2000000 in
set_option maxRecDepth 100000 in
theorem law_ValueKey (a b : List V) (va vb : Value) (w : World) (hG : GE w) (hra : RdV w va a) (hrb : RdV w vb b) (hoa : OkL a) (hob : OkL b)
    (hla : a.length ≤ 30 → (keyL a).length ≤ 70368744177664) (hlb : b.length ≤ 30 → (keyL b).length ≤ 70368744177664) : Calls Tryd.prog 9 #[va, vb] w fun e w' => e = .returned (.bool true) ∧ Ext w w' := by
  have HG := Lib.hid hG
  have HA := Lib.hid hra
  have HB := Lib.hid hrb
  obtain ⟨ad, cap, rfl, ha1, ha2, -⟩ := hra
  obtain ⟨bd, bcap, rfl, hb1, hb2, -⟩ := hrb
  by_cases hn : 30 < a.length
  · clear hoa hob hla hlb HA HB hG
    generalize a.length = n at *
    generalize b.length = m at *
    go_enter Tryd.func9, Tryd.ntmps9
    go_wp2_with fail
    refine (awake_law w HG.out).mono ?_; rintro e w1 ⟨rfl, hE⟩
    go_wp2_with fail
    go_ret
    exact ⟨rfl, hE⟩
  by_cases hm : 30 < b.length
  · clear hoa hob hla hlb HA HB hG
    generalize a.length = n at *
    generalize b.length = m at *
    go_enter Tryd.func9, Tryd.ntmps9
    go_wp2_with fail
    refine (awake_law w HG.out).mono ?_; rintro e w1 ⟨rfl, hE⟩
    go_wp2_with fail
    go_ret
    exact ⟨rfl, hE⟩
  have K1 := Lib.hid (fun x (h : Ext w x) => key_val a _ x (hG.ext h) (HA.out.ext h) hoa (hla (by omega)))
  have K2 := Lib.hid (fun x (h : Ext w x) => key_val b _ x (hG.ext h) (HB.out.ext h) hob (hlb (by omega)))
  have K3 := Lib.hid (fun x (h : Ext w x) => crows_ref a b _ _ x (HA.out.ext h) (HB.out.ext h))
  have HE := Lib.hid (show (keyL a == keyL b) = (cmpR a b == 0) by
    rw [Bool.eq_iff_iff, beq_iff_eq, beq_iff_eq, cr_zero]
    exact ⟨key_inj a b, fun e => by rw [e]⟩)
  clear hoa hob hla hlb HA HB hG
  generalize cmpR a b = c at *
  generalize keyL a = x at *
  generalize keyL b = y at *
  generalize a.length = n at *
  generalize b.length = m at *
  go_enter Tryd.func9, Tryd.ntmps9
  go_wp2_with fail
  refine (awake_law w HG.out).mono ?_; rintro e w1 ⟨rfl, hE1⟩
  go_wp2_with fail
  refine (K1.out w1 hE1).mono ?_; rintro e w2 ⟨rfl, hE2⟩
  go_wp2_with fail
  refine (K2.out w2 (hE1.trans hE2)).mono ?_; rintro e w3 ⟨rfl, hE3⟩
  go_wp2_with fail
  refine (K3.out w3 ((hE1.trans hE2).trans hE3)).mono ?_; rintro e w4 ⟨rfl, hE4⟩
  go_wp2_with fail
  go_ret
  exact ⟨ret_bool (by simp [HE.out]), ((hE1.trans hE2).trans hE3).trans hE4⟩
end Go.Proofs.YtejgmiljjpgbpaaDoor
