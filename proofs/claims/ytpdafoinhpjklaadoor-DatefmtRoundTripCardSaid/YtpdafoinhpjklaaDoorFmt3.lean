/- The contract of the program's FormatPeriod. -/
import Derived.Test.YtpdafoinhpjklaaDoorFmt2
import Derived.Test.YtpdafoinhpjklaaDoorPV
namespace Go.Proofs.YtpdafoinhpjklaaDoor
open Go.ChangeShapes Go.WideShapes Go.ChangeAt Go.RowKit

theorem fdayE (W0 : World) (n : Int) (w : World) (hT : PT W0) (hE : Ext W0 w) :
    Calls Tryd.prog 10 #[.int .i64 n] w fun e w' => e = .returned (sv (Cal.fday n)) ∧ (∀ b o, b < W0.heap.size → w'.cell? ⟨b, o, none⟩ = W0.cell? ⟨b, o, none⟩) ∧ Ext W0 w' :=
  heldE W0 (fday_prog n w (hT.ext hE)) hE

set_option maxHeartbeats 2000000 in
theorem fper_prog_no (a b : Int) (w : World) (h : a < 0 ∨ b ≤ a ∨ 1000000 < b) :
    Calls Tryd.prog 12 #[pv a b] w fun e w' => e = .returned (sv []) ∧ Ext w w' := by
  by_cases h0 : a < 0
  · go_enter Tryd.func12, Tryd.ntmps12
    go_wp2_with fail
    go_ret
    exact ⟨rfl, (Ext.refl _).alloc _ _⟩
  · by_cases h1 : b ≤ a
    · go_enter Tryd.func12, Tryd.ntmps12
      go_wp2_with fail
      go_ret
      exact ⟨rfl, (Ext.refl _).alloc _ _⟩
    · have h2 : 1000000 < b := by omega
      clear h
      go_enter Tryd.func12, Tryd.ntmps12
      go_wp2_with fail
      go_ret
      exact ⟨rfl, (Ext.refl _).alloc _ _⟩
set_option maxHeartbeats 2000000 in
theorem fper_prog_yes (a b : Int) (w : World) (hT : PT w) (h0 : 0 ≤ a) (h1 : a < b) (h2 : b ≤ 1000000) :
    Calls Tryd.prog 12 #[pv a b] w fun e w' => e = .returned (sv (Cal.fper a b)) ∧ Ext w w' := by
  have HP := Lib.hid (Cal.fper_ok h0 h1 h2)
  have n0 : ¬ a < 0 := by omega
  have n1 : ¬ b ≤ a := by omega
  have n2 : ¬ 1000000 < b := by omega
  have la := Cal.fday_len a
  have lb := Cal.fday_len b
  have s1 : ¬ 9223372036854775807 < 1 + (Cal.fday a).length := by omega
  have s2 : ¬ 9223372036854775807 < 1 + (Cal.fday a).length + 2 := by omega
  have s3 : ¬ 9223372036854775807 < 1 + (Cal.fday a).length + 2 + (Cal.fday b).length := by omega
  have s4 : ¬ 9223372036854775807 < 1 + (Cal.fday a).length + 2 + (Cal.fday b).length + 1 := by omega
  have hE0 : Ext w (w.alloc (.cells #[.int .i64 a, .int .i64 b] 23)) := (Ext.refl _).alloc _ _
  have HT := Lib.hid (hT.ext hE0)
  have K0 := Lib.hid (al0 w (.int .i64 a) (.int .i64 b) 23)
  have K1 := Lib.hid (al1 w (.int .i64 a) (.int .i64 b) 23)
  clear hT
  go_enter Tryd.func12, Tryd.ntmps12
  go_wp2_with fail
  go_region_held3 (fun w' => w'.cell? ⟨w.heap.size, 0, none⟩ = some (.int .i64 a) ∧ w'.cell? ⟨w.heap.size, 1, none⟩ = some (.int .i64 b)) (first | exact ⟨K0.out, K1.out⟩ | go_keep)
    (first | (go_at_call 10; refine (fdayE (w.alloc (.cells #[.int .i64 a, .int .i64 b] 23)) _ _ HT.out ?_).mono ?_; (first | assumption | exact Ext.refl _ | exact (Ext.refl _).drew); rintro e w3 ⟨rfl, q0, qG⟩; have f0 := qG.keeps K0.out; have f1 := qG.keeps K1.out))
  go_wp2_with fail
  go_ret
  refine ⟨?_, hE0.trans qG⟩
  show Ending.returned (.string ((⟨([91] : List UInt8).toArray⟩ : ByteArray) ++ ⟨(Cal.fday a).toArray⟩ ++ ⟨([44, 32] : List UInt8).toArray⟩ ++ ⟨(Cal.fday b).toArray⟩ ++ ⟨([41] : List UInt8).toArray⟩)) = _
  rw [app_mk, app_mk, app_mk, app_mk]
  exact ret_sv HP.out.symm
theorem fper_prog (a b : Int) (w : World) (hT : PT w) : Calls Tryd.prog 12 #[pv a b] w fun e w' => e = .returned (sv (Cal.fper a b)) ∧ Ext w w' := by
  by_cases h : 0 ≤ a ∧ a < b ∧ b ≤ 1000000
  · exact fper_prog_yes a b w hT h.1 h.2.1 h.2.2
  · rw [Cal.fper_no h]; exact fper_prog_no a b w (by omega)
end Go.Proofs.YtpdafoinhpjklaaDoor
