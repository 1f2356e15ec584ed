/- The laws' check of fixed texts, and the law DatefmtParseDay. -/
import Derived.Test.YtpdafoinhpjklaaDoorSpr3
import Derived.Test.YtpdafoinhpjklaaDoorFmt3
import Derived.Test.YtpdafoinhpjklaaDoorFmr2
namespace Go.Proofs.YtpdafoinhpjklaaDoor
open Go.ChangeShapes Go.WideShapes Go.ChangeAt Go.RowKit

theorem sv_of (s : ByteArray) : Value.string s = sv s.data.toList := by simp [sv]
theorem aw_per (w : World) : Calls Tryd.prog 16 #[.string { data := #[91, 49, 54, 48, 48, 45, 48, 49, 45, 48, 49, 44, 32, 102, 111, 114, 101, 118, 101, 114, 41] }] w fun e w' => e = .returned (.tuple #[pv 0 1000000, .int .i64 0]) ∧ Ext w w' := by
  have h := pper_prog [91, 49, 54, 48, 48, 45, 48, 49, 45, 48, 49, 44, 32, 102, 111, 114, 101, 118, 101, 114, 41] [49, 54, 48, 48, 45, 48, 49, 45, 48, 49] [102, 111, 114, 101, 118, 101, 114] w (by simp [maxLen]) ⟨rfl, by decide, by decide⟩
  rw [show Cal.ppA [49, 54, 48, 48, 45, 48, 49, 45, 48, 49] [102, 111, 114, 101, 118, 101, 114] = 0 by decide +kernel, show Cal.ppB [49, 54, 48, 48, 45, 48, 49, 45, 48, 49] [102, 111, 114, 101, 118, 101, 114] = 1000000 by decide +kernel, show Cal.ppE [49, 54, 48, 48, 45, 48, 49, 45, 48, 49] [102, 111, 114, 101, 118, 101, 114] = 0 by decide +kernel] at h
  exact h
theorem aw_d1 (w : World) : Calls Tryd.prog 14 #[.string { data := #[49, 54, 48, 48, 45, 48, 50, 45, 51, 48] }] w fun e w' => e = .returned (.tuple #[.int .i64 0, .int .i64 10]) ∧ Ext w w' := by
  have h := pday_prog [49, 54, 48, 48, 45, 48, 50, 45, 51, 48] w
  rw [show Cal.pdV [49, 54, 48, 48, 45, 48, 50, 45, 51, 48] = 0 by decide +kernel, show Cal.pdE [49, 54, 48, 48, 45, 48, 50, 45, 51, 48] = 10 by decide +kernel] at h
  exact h
theorem aw_d2 (w : World) : Calls Tryd.prog 14 #[.string { data := #[49, 54, 48, 48, 45, 49, 45, 48, 49] }] w fun e w' => e = .returned (.tuple #[.int .i64 0, .int .i64 5]) ∧ Ext w w' := by
  have h := pday_prog [49, 54, 48, 48, 45, 49, 45, 48, 49] w
  rw [show Cal.pdV [49, 54, 48, 48, 45, 49, 45, 48, 49] = 0 by decide +kernel, show Cal.pdE [49, 54, 48, 48, 45, 49, 45, 48, 49] = 5 by decide +kernel] at h
  exact h
theorem aw_f (w : World) (hT : PT w) : Calls Tryd.prog 10 #[.int .i64 59] w fun e w' => e = .returned (sv [49, 54, 48, 48, 45, 48, 50, 45, 50, 57]) ∧ Ext w w' := by
  have h := fday_prog 59 w hT
  rw [show Cal.fday 59 = [49, 54, 48, 48, 45, 48, 50, 45, 50, 57] by decide +kernel] at h
  exact h

set_option maxHeartbeats 1000000 in
theorem awake_law (w : World) (hT : PT w) : Calls Tryd.prog 9 #[] w fun e w' => e = .returned (.bool true) ∧ Ext w w' := by
  have HT := Lib.hid hT
  clear hT
  go_enter Tryd.func9, Tryd.ntmps9
  go_wp2_with fail
  refine (aw_per _).mono ?_; rintro e w1 ⟨rfl, e1⟩
  go_wp2_with fail
  refine (aw_d1 _).mono ?_; rintro e w2 ⟨rfl, e2⟩
  go_wp2_with fail
  refine (aw_d2 _).mono ?_; rintro e w3 ⟨rfl, e3⟩
  have E3 : Ext w w3 := ((e1.trans ((Ext.refl _).alloc _ _)).trans e2).trans e3
  go_wp2_with fail
  refine (aw_f _ (HT.out.ext E3)).mono ?_; rintro e w4 ⟨rfl, e4⟩
  have k0 : w4.cell? ⟨w1.heap.size, 0, none⟩ = some (.int .i64 0) := ((e2.trans e3).trans e4).keeps (al0 _ _ _ _)
  have k1 : w4.cell? ⟨w1.heap.size, 1, none⟩ = some (.int .i64 1000000) := ((e2.trans e3).trans e4).keeps (al1 _ _ _ _)
  have hz : w1.heap.size < w4.heap.size := by have := ((e2.trans e3).trans e4).2.2; simp at this; omega
  go_wp2_with fail
  go_ret
  exact ⟨rfl, E3.trans e4⟩

set_option maxHeartbeats 1000000 in
theorem law_DatefmtParseDay (s : ByteArray) (w : World) (hT : PT w) : Calls Tryd.prog 4 #[.string s] w fun e w' => e = .returned (.bool true) ∧ Ext w w' := by
  rw [sv_of]
  generalize s.data.toList = l
  have HT := Lib.hid hT
  clear hT
  go_enter Tryd.func4, Tryd.ntmps4
  go_wp2_with fail
  refine (pday_prog l _).mono ?_; rintro e w1 ⟨rfl, e1⟩
  go_wp2_with fail
  refine (pday_ref l _).mono ?_; rintro e w2 ⟨rfl, e2⟩
  go_wp2_with fail
  refine (awake_law _ (HT.out.ext (e1.trans e2))).mono ?_; rintro e w3 ⟨rfl, e3⟩
  go_wp2_with fail
  go_ret
  exact ⟨rfl, (e1.trans e2).trans e3⟩
end Go.Proofs.YtpdafoinhpjklaaDoor
