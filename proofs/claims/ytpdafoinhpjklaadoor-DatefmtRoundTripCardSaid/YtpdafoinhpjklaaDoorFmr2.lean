/- Contracts of the reference's FormatDay and FormatPeriod. -/
import Derived.Test.YtpdafoinhpjklaaDoorFmr1
namespace Go.Proofs.YtpdafoinhpjklaaDoor
open Go.ChangeShapes Go.WideShapes Go.ChangeAt Go.RowKit

set_option maxHeartbeats 400000 in
theorem fday_ref_ever (w : World) : Calls Tryd.prog 11 #[.int .i64 1000000] w fun e w' => e = .returned (sv Cal.foreverL) ∧ w = w' := by
  go_enter Tryd.func11, Tryd.ntmps11
  go_wp2_with fail
  go_ret
  exact ⟨rfl, rfl⟩
set_option maxHeartbeats 400000 in
theorem fday_ref_none (n : Int) (w : World) (h : n < 1000000 ∨ 1000000 < n) (hn : Cal.isDayB n = false) : Calls Tryd.prog 11 #[.int .i64 n] w fun e w' => e = .returned (sv []) ∧ Ext w w' := by
  have HN := Lib.hid hn
  have hne : ¬ n = 1000000 := by omega
  clear hn
  go_enter Tryd.func11, Tryd.ntmps11
  go_wp2_with fail
  refine (td_ref_none _ _ HN.out).mono ?_; rintro e w1 ⟨rfl, hg⟩
  go_wp2_with fail
  go_ret
  exact ⟨rfl, ext_of_grown hg⟩
set_option maxHeartbeats 400000 in
theorem fday_ref_day (n : Int) (w : World) (hn : Cal.isDayB n = true) : Calls Tryd.prog 11 #[.int .i64 n] w fun e w' => e = .returned (sv (Cal.fday n)) ∧ Ext w w' := by
  have HF := Lib.hid (Cal.fday_day hn)
  obtain ⟨a1, a2, a3, a4, a5, a6, _⟩ := Cal.td_spec n hn
  have hb := Cal.dim_bd (Cal.tdY n) (Cal.tdM n)
  have hne : ¬ n = 1000000 := by rw [Cal.isDay_iff] at hn; omega
  have HN := Lib.hid hn
  clear hn
  go_enter Tryd.func11, Tryd.ntmps11
  go_wp2_with fail
  refine (td_ref_day _ _ HN.out).mono ?_; rintro e w0 ⟨rfl, hg0⟩
  go_wp2_with fail
  refine (digits_four _ _ (by omega) (by omega)).mono ?_; rintro e w1 ⟨rfl, hg1⟩
  go_wp2_with fail
  refine (digits_two _ _ (by omega) (by omega)).mono ?_; rintro e w2 ⟨rfl, hg2⟩
  go_wp2_with fail
  refine (digits_two _ _ (by omega) (by omega)).mono ?_; rintro e w3 ⟨rfl, hg3⟩
  go_wp2_with fail
  go_ret
  exact ⟨ret_sv HF.out.symm, (((ext_of_grown hg0).trans hg1).trans hg2).trans hg3⟩
theorem fday_ref (n : Int) (w : World) : Calls Tryd.prog 11 #[.int .i64 n] w fun e w' => e = .returned (sv (Cal.fday n)) ∧ Ext w w' := by
  by_cases h : n = 1000000
  · subst h; rw [Cal.fday_forever]; exact (fday_ref_ever w).mono fun e w' ⟨a, b⟩ => ⟨a, b ▸ Ext.refl _⟩
  · cases hd : Cal.isDayB n
    · rw [Cal.fday_no h hd]; exact fday_ref_none n w (by omega) hd
    · exact fday_ref_day n w hd
theorem fdayRE (W0 : World) (n : Int) (w : World) (hE : Ext W0 w) :
    Calls Tryd.prog 11 #[.int .i64 n] w fun e w' => e = .returned (sv (Cal.fday n)) ∧ (∀ b o, b < W0.heap.size → w'.cell? ⟨b, o, none⟩ = W0.cell? ⟨b, o, none⟩) ∧ Ext W0 w' :=
  heldE W0 (fday_ref n w) hE
theorem okD_yes {a b : Int} (h0 : 0 ≤ a) (h1 : a < b) (h2 : b ≤ 1000000) : okD a b = true := by simp [okD, *]
theorem okD_no {a b : Int} (h : ¬ (0 ≤ a ∧ a < b ∧ b ≤ 1000000)) : okD a b = false := by unfold okD; simpa using h
set_option maxHeartbeats 2000000 in
theorem fper_ref_no (a b : Int) (w : World) (h : ¬ (0 ≤ a ∧ a < b ∧ b ≤ 1000000)) :
    Calls Tryd.prog 13 #[pv a b] w fun e w' => e = .returned (sv []) ∧ Ext w w' := by
  have HD := Lib.hid (okD_no h)
  clear h
  go_enter Tryd.func13, Tryd.ntmps13
  go_wp2_with fail
  refine (vd_no _ _ _ HD.out).mono ?_; rintro e w1 ⟨rfl, hg⟩
  go_wp2_with fail
  go_ret
  exact ⟨rfl, ((Ext.refl _).alloc _ _).trans (ext_of_grown hg)⟩
set_option maxHeartbeats 2000000 in
theorem fper_ref_yes (a b : Int) (w : World) (h0 : 0 ≤ a) (h1 : a < b) (h2 : b ≤ 1000000) :
    Calls Tryd.prog 13 #[pv a b] w fun e w' => e = .returned (sv (Cal.fper a b)) ∧ Ext w w' := by
  have HP := Lib.hid (Cal.fper_ok h0 h1 h2)
  have HD := Lib.hid (okD_yes h0 h1 h2)
  have la := Cal.fday_len a
  have lb := Cal.fday_len b
  have s1 : ¬ 9223372036854775807 < 1 + (Cal.fday a).length := by omega
  have s2 : ¬ 9223372036854775807 < 1 + (Cal.fday a).length + 2 := by omega
  have s3 : ¬ 9223372036854775807 < 1 + (Cal.fday a).length + 2 + (Cal.fday b).length := by omega
  have s4 : ¬ 9223372036854775807 < 1 + (Cal.fday a).length + 2 + (Cal.fday b).length + 1 := by omega
  have hE0 : Ext w (w.alloc (.cells #[.int .i64 a, .int .i64 b] 23)) := (Ext.refl _).alloc _ _
  have K0 := Lib.hid (al0 w (.int .i64 a) (.int .i64 b) 23)
  have K1 := Lib.hid (al1 w (.int .i64 a) (.int .i64 b) 23)
  go_enter Tryd.func13, Tryd.ntmps13
  go_wp2_with fail
  refine (vd_yes _ _ _ HD.out).mono ?_; rintro e w1 ⟨rfl, hg⟩
  have k0 : w1.cell? ⟨w.heap.size, 0, none⟩ = some (.int .i64 a) := kept hg K0.out
  have k1 : w1.cell? ⟨w.heap.size, 1, none⟩ = some (.int .i64 b) := kept hg K1.out
  have J0 := Lib.hid k0
  have J1 := Lib.hid k1
  go_wp2_with fail
  go_region_held3 (fun w' => w'.cell? ⟨w.heap.size, 0, none⟩ = some (.int .i64 a) ∧ w'.cell? ⟨w.heap.size, 1, none⟩ = some (.int .i64 b)) (first | exact ⟨J0.out, J1.out⟩ | go_keep)
    (first | (go_at_call 11; refine (fdayRE w1 _ _ ?_).mono ?_; (first | assumption | exact Ext.refl _ | exact (Ext.refl _).drew); rintro e w3 ⟨rfl, q0, qG⟩; have f0 := qG.keeps J0.out; have f1 := qG.keeps J1.out))
  go_wp2_with fail
  go_ret
  refine ⟨?_, (hE0.trans (ext_of_grown hg)).trans qG⟩
  show Ending.returned (.string ((⟨([91] : List UInt8).toArray⟩ : ByteArray) ++ ⟨(Cal.fday a).toArray⟩ ++ ⟨([44, 32] : List UInt8).toArray⟩ ++ ⟨(Cal.fday b).toArray⟩ ++ ⟨([41] : List UInt8).toArray⟩)) = _
  rw [app_mk, app_mk, app_mk, app_mk]
  exact ret_sv HP.out.symm
theorem fper_ref (a b : Int) (w : World) : Calls Tryd.prog 13 #[pv a b] w fun e w' => e = .returned (sv (Cal.fper a b)) ∧ Ext w w' := by
  by_cases h : 0 ≤ a ∧ a < b ∧ b ≤ 1000000
  · exact fper_ref_yes a b w h.1 h.2.1 h.2.2
  · rw [Cal.fper_no h]; exact fper_ref_no a b w h
end Go.Proofs.YtpdafoinhpjklaaDoor
