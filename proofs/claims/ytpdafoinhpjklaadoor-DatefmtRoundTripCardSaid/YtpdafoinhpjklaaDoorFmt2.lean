/- Contracts of the program's FormatDay and FormatPeriod. -/
import Derived.Test.YtpdafoinhpjklaaDoorFmt1
import Derived.Test.YtpdafoinhpjklaaDoorWalk3
namespace Go.Proofs.YtpdafoinhpjklaaDoor
open Go.ChangeShapes Go.WideShapes Go.ChangeAt Go.RowKit

set_option maxHeartbeats 400000 in
theorem fday_prog_ever (w : World) : Calls Tryd.prog 10 #[.int .i64 1000000] w fun e w' => e = .returned (sv Cal.foreverL) ∧ w = w' := by
  go_enter Tryd.func10, Tryd.ntmps10
  go_wp2_with fail
  go_ret
  exact ⟨rfl, rfl⟩
set_option maxHeartbeats 400000 in
theorem fday_prog_none (n : Int) (w : World) (h : n < 1000000 ∨ 1000000 < n) (hn : Cal.isDayB n = false) : Calls Tryd.prog 10 #[.int .i64 n] w fun e w' => e = .returned (sv []) ∧ w = w' := by
  have HN := Lib.hid hn
  have hne : ¬ n = 1000000 := by omega
  clear hn
  go_enter Tryd.func10, Tryd.ntmps10
  go_wp2_with fail
  refine (td_civ_none _ _ HN.out).mono ?_; rintro e w' ⟨rfl, rfl⟩
  go_wp2_with fail
  go_ret
  exact ⟨rfl, rfl⟩
set_option maxHeartbeats 400000 in
theorem fday_prog_day (n : Int) (w : World) (hT : PT w) (hn : Cal.isDayB n = true) : Calls Tryd.prog 10 #[.int .i64 n] w fun e w' => e = .returned (sv (Cal.fday n)) ∧ Ext w w' := by
  have HF := Lib.hid (Cal.fday_day hn)
  obtain ⟨a1, a2, a3, a4, a5, a6, _⟩ := Cal.td_spec n hn
  have hb := Cal.dim_bd (Cal.tdY n) (Cal.tdM n)
  have hne : ¬ n = 1000000 := by rw [Cal.isDay_iff] at hn; omega
  have HN := Lib.hid hn
  clear hn
  go_enter Tryd.func10, Tryd.ntmps10
  go_wp2_with fail
  refine (td_civ_day _ _ HN.out).mono ?_; rintro e w' ⟨rfl, rfl⟩
  go_wp2_with fail
  refine (pad_four _ _ hT (by omega) (by omega)).mono ?_; rintro e w1 ⟨rfl, hg⟩
  go_wp2_with fail
  refine (pad_two _ _ (by omega) (by omega)).mono ?_; rintro e w' ⟨rfl, rfl⟩
  go_wp2_with fail
  refine (pad_two _ _ (by omega) (by omega)).mono ?_; rintro e w' ⟨rfl, rfl⟩
  go_wp2_with fail
  go_ret
  exact ⟨ret_sv HF.out.symm, hg⟩
theorem fday_prog (n : Int) (w : World) (hT : PT w) : Calls Tryd.prog 10 #[.int .i64 n] w fun e w' => e = .returned (sv (Cal.fday n)) ∧ Ext w w' := by
  by_cases h : n = 1000000
  · subst h; rw [Cal.fday_forever]; exact (fday_prog_ever w).mono fun e w' ⟨a, b⟩ => ⟨a, b ▸ Ext.refl _⟩
  · cases hd : Cal.isDayB n
    · rw [Cal.fday_no h hd]; exact (fday_prog_none n w (by omega) hd).mono fun e w' ⟨a, b⟩ => ⟨a, b ▸ Ext.refl _⟩
    · exact fday_prog_day n w hT hd
end Go.Proofs.YtpdafoinhpjklaaDoor
