/- Contracts of the program's isDigit, isDateForm and number. -/
import Derived.Test.YtpdafoinhpjklaaDoorFmt1
import Derived.Test.YtpdafoinhpjklaaDoorPV
namespace Go.Proofs.YtpdafoinhpjklaaDoor
open Go.ChangeShapes Go.WideShapes Go.ChangeAt Go.RowKit

set_option maxHeartbeats 400000 in
theorem isDig_prog (c : UInt8) (w : World) : Calls Tryd.prog 39 #[.int .u8 (c.toNat : Int)] w fun e w' => e = .returned (.bool (Cal.isDig c)) ∧ w = w' := by
  go_enter Tryd.func39, Tryd.ntmps39
  go_wp2
  all_goals
    go_ret
    exact ⟨ret_bool (by rw [Bool.eq_iff_iff]; simp [Cal.isDig, *] <;> omega), rfl⟩
theorem isDig_yes (c : UInt8) (w : World) (h : Cal.isDig c = true) : Calls Tryd.prog 39 #[.int .u8 (c.toNat : Int)] w fun e w' => e = .returned (.bool true) ∧ w = w' := by
  have := isDig_prog c w; rwa [h] at this
theorem isDig_no (c : UInt8) (w : World) (h : Cal.isDig c = false) : Calls Tryd.prog 39 #[.int .u8 (c.toNat : Int)] w fun e w' => e = .returned (.bool false) ∧ w = w' := by
  have := isDig_prog c w; rwa [h] at this
theorem form_bad {l : List UInt8} (j : Nat) (hj : j < 10) (h : Cal.okAt j (l.getD j 0) = false) : Cal.form l = false := by
  cases hf : Cal.form l
  · rfl
  · rw [Cal.form_iff] at hf; have := hf.2 j hj; rw [h] at this; cases this
theorem up_succ {l : List UInt8} {m : Nat} (h : ∀ j, j < m → Cal.okAt j (l.getD j 0) = true) (hm : Cal.okAt m (l.getD m 0) = true) : ∀ j, j < m + 1 → Cal.okAt j (l.getD j 0) = true := by
  intro j hj
  by_cases e : j = m
  · rw [e]; exact hm
  · exact h j (by omega)
set_option maxHeartbeats 400000 in
theorem form_prog_len (l : List UInt8) (w : World) (h : l.length ≠ 10) : Calls Tryd.prog 24 #[sv l] w fun e w' => e = .returned (.bool false) ∧ w = w' := by
  go_enter Tryd.func24, Tryd.ntmps24
  go_wp2
  go_ret
  exact ⟨rfl, rfl⟩
def upTo (w0 : World) (l : List UInt8) (i : Value) (W : World) : Prop := ∃ k : Nat, k ≤ 10 ∧ i = .int .i64 k ∧ (∀ j, j < k → Cal.okAt j (l.getD j 0) = true) ∧ Ext w0 W
set_option maxHeartbeats 4000000 in
theorem form_prog_ten (a b c d e f g i j k : UInt8) (w : World) : Calls Tryd.prog 24 #[sv [a, b, c, d, e, f, g, i, j, k]] w fun e' w' => e' = .returned (.bool (Cal.form [a, b, c, d, e, f, g, i, j, k])) ∧ Ext w w' := by
  go_enter Tryd.func24, Tryd.ntmps24
  go_wp2
  go_loopw [9] (upTo w [a, b, c, d, e, f, g, i, j, k]) (fun i _ => 10 - (intOf i).toNat)
  case atStart => exact ⟨0, by omega, rfl, by omega, Ext.refl _⟩
  case round =>
    obtain ⟨m, hm, rfl, hj, hE⟩ := hrel
    have HJ := Lib.hid hj
    clear hj
    have : m = 0 ∨ m = 1 ∨ m = 2 ∨ m = 3 ∨ m = 4 ∨ m = 5 ∨ m = 6 ∨ m = 7 ∨ m = 8 ∨ m = 9 ∨ m = 10 := by omega
    rcases this with rfl | rfl | rfl | rfl | rfl | rfl | rfl | rfl | rfl | rfl | rfl
    · cases hx : Cal.isDig a
      · have HX := Lib.hid hx
        clear hx
        go_wp2_with fail
        refine (isDig_no a _ HX.out).mono ?_; rintro e' w' ⟨rfl, rfl⟩
        go_wp2_with fail
        go_ret
        exact ⟨ret_bool (form_bad 0 (by omega) (by simp [Cal.okAt, HX.out])).symm, hE⟩
      · have HX := Lib.hid hx
        clear hx
        go_wp2_with fail
        refine (isDig_yes a _ HX.out).mono ?_; rintro e' w' ⟨rfl, rfl⟩
        go_wp2_with fail
        go_roundw
        case rel => exact ⟨1, by omega, rfl, up_succ HJ.out (by simp [Cal.okAt, HX.out]), hE⟩
        case measure => simp [intOf]
    · cases hx : Cal.isDig b
      · have HX := Lib.hid hx
        clear hx
        go_wp2_with fail
        refine (isDig_no b _ HX.out).mono ?_; rintro e' w' ⟨rfl, rfl⟩
        go_wp2_with fail
        go_ret
        exact ⟨ret_bool (form_bad 1 (by omega) (by simp [Cal.okAt, HX.out])).symm, hE⟩
      · have HX := Lib.hid hx
        clear hx
        go_wp2_with fail
        refine (isDig_yes b _ HX.out).mono ?_; rintro e' w' ⟨rfl, rfl⟩
        go_wp2_with fail
        go_roundw
        case rel => exact ⟨2, by omega, rfl, up_succ HJ.out (by simp [Cal.okAt, HX.out]), hE⟩
        case measure => simp [intOf]
    · cases hx : Cal.isDig c
      · have HX := Lib.hid hx
        clear hx
        go_wp2_with fail
        refine (isDig_no c _ HX.out).mono ?_; rintro e' w' ⟨rfl, rfl⟩
        go_wp2_with fail
        go_ret
        exact ⟨ret_bool (form_bad 2 (by omega) (by simp [Cal.okAt, HX.out])).symm, hE⟩
      · have HX := Lib.hid hx
        clear hx
        go_wp2_with fail
        refine (isDig_yes c _ HX.out).mono ?_; rintro e' w' ⟨rfl, rfl⟩
        go_wp2_with fail
        go_roundw
        case rel => exact ⟨3, by omega, rfl, up_succ HJ.out (by simp [Cal.okAt, HX.out]), hE⟩
        case measure => simp [intOf]
    · cases hx : Cal.isDig d
      · have HX := Lib.hid hx
        clear hx
        go_wp2_with fail
        refine (isDig_no d _ HX.out).mono ?_; rintro e' w' ⟨rfl, rfl⟩
        go_wp2_with fail
        go_ret
        exact ⟨ret_bool (form_bad 3 (by omega) (by simp [Cal.okAt, HX.out])).symm, hE⟩
      · have HX := Lib.hid hx
        clear hx
        go_wp2_with fail
        refine (isDig_yes d _ HX.out).mono ?_; rintro e' w' ⟨rfl, rfl⟩
        go_wp2_with fail
        go_roundw
        case rel => exact ⟨4, by omega, rfl, up_succ HJ.out (by simp [Cal.okAt, HX.out]), hE⟩
        case measure => simp [intOf]
    · by_cases hx : e.toNat = 45
      · obtain rfl : e = 45 := UInt8.toNat_inj.1 (by rw [hx]; rfl)
        clear hx
        go_wp2_with fail
        go_region
        go_wp2_with fail
        go_roundw
        case rel => exact ⟨5, by omega, rfl, up_succ HJ.out (by simp [Cal.okAt]), hE.drew⟩
        case measure => simp [intOf]
      · have HX := Lib.hid hx
        have hn : (((({ data := #[a, b, c, d, e, f, g, i, j, k] } : ByteArray)[4]'(by show 4 < 10; omega)).toNat : Int) != ((({ data := #[48, 48, 48, 48, 45, 48, 48, 45, 48, 48] } : ByteArray)[4]'(by show 4 < 10; omega)).toNat : Int)) = true := by
          show ((e.toNat : Int) != 45) = true
          rw [bne_iff_ne]; omega
        go_wp2_with fail
        go_region
        go_wp2_with fail
        go_ret
        exact ⟨ret_bool (form_bad 4 (by omega) (by simp [Cal.okAt, HX.out])).symm, hE.drew⟩
    · cases hx : Cal.isDig f
      · have HX := Lib.hid hx
        clear hx
        go_wp2_with fail
        refine (isDig_no f _ HX.out).mono ?_; rintro e' w' ⟨rfl, rfl⟩
        go_wp2_with fail
        go_ret
        exact ⟨ret_bool (form_bad 5 (by omega) (by simp [Cal.okAt, HX.out])).symm, hE⟩
      · have HX := Lib.hid hx
        clear hx
        go_wp2_with fail
        refine (isDig_yes f _ HX.out).mono ?_; rintro e' w' ⟨rfl, rfl⟩
        go_wp2_with fail
        go_roundw
        case rel => exact ⟨6, by omega, rfl, up_succ HJ.out (by simp [Cal.okAt, HX.out]), hE⟩
        case measure => simp [intOf]
    · cases hx : Cal.isDig g
      · have HX := Lib.hid hx
        clear hx
        go_wp2_with fail
        refine (isDig_no g _ HX.out).mono ?_; rintro e' w' ⟨rfl, rfl⟩
        go_wp2_with fail
        go_ret
        exact ⟨ret_bool (form_bad 6 (by omega) (by simp [Cal.okAt, HX.out])).symm, hE⟩
      · have HX := Lib.hid hx
        clear hx
        go_wp2_with fail
        refine (isDig_yes g _ HX.out).mono ?_; rintro e' w' ⟨rfl, rfl⟩
        go_wp2_with fail
        go_roundw
        case rel => exact ⟨7, by omega, rfl, up_succ HJ.out (by simp [Cal.okAt, HX.out]), hE⟩
        case measure => simp [intOf]
    · by_cases hx : i.toNat = 45
      · obtain rfl : i = 45 := UInt8.toNat_inj.1 (by rw [hx]; rfl)
        clear hx
        go_wp2_with fail
        go_region
        go_wp2_with fail
        go_roundw
        case rel => exact ⟨8, by omega, rfl, up_succ HJ.out (by simp [Cal.okAt]), hE.drew⟩
        case measure => simp [intOf]
      · have HX := Lib.hid hx
        have hn : (((({ data := #[a, b, c, d, e, f, g, i, j, k] } : ByteArray)[7]'(by show 7 < 10; omega)).toNat : Int) != ((({ data := #[48, 48, 48, 48, 45, 48, 48, 45, 48, 48] } : ByteArray)[7]'(by show 7 < 10; omega)).toNat : Int)) = true := by
          show ((i.toNat : Int) != 45) = true
          rw [bne_iff_ne]; omega
        go_wp2_with fail
        go_region
        go_wp2_with fail
        go_ret
        exact ⟨ret_bool (form_bad 7 (by omega) (by simp [Cal.okAt, HX.out])).symm, hE.drew⟩
    · cases hx : Cal.isDig j
      · have HX := Lib.hid hx
        clear hx
        go_wp2_with fail
        refine (isDig_no j _ HX.out).mono ?_; rintro e' w' ⟨rfl, rfl⟩
        go_wp2_with fail
        go_ret
        exact ⟨ret_bool (form_bad 8 (by omega) (by simp [Cal.okAt, HX.out])).symm, hE⟩
      · have HX := Lib.hid hx
        clear hx
        go_wp2_with fail
        refine (isDig_yes j _ HX.out).mono ?_; rintro e' w' ⟨rfl, rfl⟩
        go_wp2_with fail
        go_roundw
        case rel => exact ⟨9, by omega, rfl, up_succ HJ.out (by simp [Cal.okAt, HX.out]), hE⟩
        case measure => simp [intOf]
    · cases hx : Cal.isDig k
      · have HX := Lib.hid hx
        clear hx
        go_wp2_with fail
        refine (isDig_no k _ HX.out).mono ?_; rintro e' w' ⟨rfl, rfl⟩
        go_wp2_with fail
        go_ret
        exact ⟨ret_bool (form_bad 9 (by omega) (by simp [Cal.okAt, HX.out])).symm, hE⟩
      · have HX := Lib.hid hx
        clear hx
        go_wp2_with fail
        refine (isDig_yes k _ HX.out).mono ?_; rintro e' w' ⟨rfl, rfl⟩
        go_wp2_with fail
        go_roundw
        case rel => exact ⟨10, by omega, rfl, up_succ HJ.out (by simp [Cal.okAt, HX.out]), hE⟩
        case measure => simp [intOf]
    · go_wp2_with fail
      go_ret
      exact ⟨ret_bool ((Cal.form_iff _).2 ⟨rfl, HJ.out⟩).symm, hE⟩
end Go.Proofs.YtpdafoinhpjklaaDoor
