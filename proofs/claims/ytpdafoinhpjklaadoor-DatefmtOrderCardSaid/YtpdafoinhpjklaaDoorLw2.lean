/- The laws DatefmtParsePeriod, DatefmtFormat and DatefmtRoundTrip. -/
import Derived.Test.YtpdafoinhpjklaaDoorLw1
namespace Go.Proofs.YtpdafoinhpjklaaDoor
open Go.ChangeShapes Go.WideShapes Go.ChangeAt Go.RowKit

/-- both sides of ParsePeriod agree: what a text reads as -/
theorem pper_both (l : List UInt8) (hl : l.length ≤ maxLen) : ∃ a b c : Int, (∀ w, Calls Tryd.prog 16 #[sv l] w fun e w' => e = .returned (.tuple #[pv a b, .int .i64 c]) ∧ Ext w w') ∧
    (∀ w, Calls Tryd.prog 17 #[sv l] w fun e w' => e = .returned (.tuple #[pv a b, .int .i64 c]) ∧ Ext w w') := by
  rcases kind_of l with h | ⟨f, g, h⟩
  · exact ⟨0, 0, 5, fun w => pper_prog_bad l w hl h, fun w => pper_ref_bad l w hl fun _ _ => no_both h⟩
  · exact ⟨_, _, _, fun w => pper_prog l f g w hl h, fun w => pper_ref l f g w hl h⟩

set_option maxHeartbeats 2000000 in
theorem law_DatefmtParsePeriod (s : ByteArray) (w : World) (hT : PT w) (hs : s.size ≤ maxLen) : Calls Tryd.prog 5 #[.string s] w fun e w' => e = .returned (.bool true) ∧ Ext w w' := by
  rw [sv_of]
  have hl : s.data.toList.length ≤ maxLen := hs
  generalize s.data.toList = l at hl
  obtain ⟨a, b, c, hp, hr⟩ := pper_both l hl
  have HP := Lib.hid hp
  have HR := Lib.hid hr
  have HT := Lib.hid hT
  clear hT hp hr
  go_enter Tryd.func5, Tryd.ntmps5
  go_wp2_with fail
  refine (HP.out _).mono ?_; rintro e w1 ⟨rfl, e1⟩
  go_wp2_with fail
  refine (HR.out _).mono ?_; rintro e w2 ⟨rfl, e2⟩
  have E2 : Ext w w2 := (e1.trans ((Ext.refl _).alloc _ _)).trans e2
  go_wp2_with fail
  refine (awake_law _ (HT.out.ext (E2.alloc _ _))).mono ?_; rintro e w3 ⟨rfl, e3⟩
  have k0 : w3.cell? ⟨w1.heap.size, 0, none⟩ = some (.int .i64 a) := ((e2.alloc _ _).trans e3).keeps (al0 _ _ _ _)
  have k1 : w3.cell? ⟨w1.heap.size, 1, none⟩ = some (.int .i64 b) := ((e2.alloc _ _).trans e3).keeps (al1 _ _ _ _)
  have k2 : w3.cell? ⟨w2.heap.size, 0, none⟩ = some (.int .i64 a) := e3.keeps (al0 _ _ _ _)
  have k3 : w3.cell? ⟨w2.heap.size, 1, none⟩ = some (.int .i64 b) := e3.keeps (al1 _ _ _ _)
  have z1 : w1.heap.size < w3.heap.size := by have := ((e2.alloc #[.int .i64 a, .int .i64 b] 23).trans e3).2.2; simp at this; omega
  have z2 : w2.heap.size < w3.heap.size := by have := e3.2.2; simp at this; omega
  go_wp2_with fail
  go_ret
  exact ⟨rfl, (E2.alloc _ _).trans e3⟩

theorem awakeE (W0 : World) (w : World) (hT : PT W0) (hE : Ext W0 w) : Calls Tryd.prog 9 #[] w fun e w' => e = .returned (.bool true) ∧ (∀ b o, b < W0.heap.size → w'.cell? ⟨b, o, none⟩ = W0.cell? ⟨b, o, none⟩) ∧ Ext W0 w' :=
  heldE W0 (awake_law w (hT.ext hE)) hE
theorem fperE (W0 : World) (a b : Int) (w : World) (hT : PT W0) (hE : Ext W0 w) :
    Calls Tryd.prog 12 #[pv a b] w fun e w' => e = .returned (sv (Cal.fper a b)) ∧ (∀ b o, b < W0.heap.size → w'.cell? ⟨b, o, none⟩ = W0.cell? ⟨b, o, none⟩) ∧ Ext W0 w' :=
  heldE W0 (fper_prog a b w (hT.ext hE)) hE
theorem fperRE (W0 : World) (a b : Int) (w : World) (hE : Ext W0 w) :
    Calls Tryd.prog 13 #[pv a b] w fun e w' => e = .returned (sv (Cal.fper a b)) ∧ (∀ b o, b < W0.heap.size → w'.cell? ⟨b, o, none⟩ = W0.cell? ⟨b, o, none⟩) ∧ Ext W0 w' :=
  heldE W0 (fper_ref a b w) hE

set_option maxHeartbeats 2000000 in
theorem law_DatefmtFormat (n a b : Int) (w : World) (hT : PT w) : Calls Tryd.prog 3 #[.int .i64 n, pv a b] w fun e w' => e = .returned (.bool true) ∧ Ext w w' := by
  have hE0 : Ext w (w.alloc (.cells #[.int .i64 a, .int .i64 b] 23)) := (Ext.refl _).alloc _ _
  have HT := Lib.hid (hT.ext hE0)
  have K0 := Lib.hid (al0 w (.int .i64 a) (.int .i64 b) 23)
  have K1 := Lib.hid (al1 w (.int .i64 a) (.int .i64 b) 23)
  clear hT
  go_enter Tryd.func3, Tryd.ntmps3
  go_wp2_with fail
  go_region_held3 (fun w' => w'.cell? ⟨w.heap.size, 0, none⟩ = some (.int .i64 a) ∧ w'.cell? ⟨w.heap.size, 1, none⟩ = some (.int .i64 b)) (first | exact ⟨K0.out, K1.out⟩ | go_keep)
    (first
      | (go_at_call 9; refine (awakeE (w.alloc (.cells #[.int .i64 a, .int .i64 b] 23)) _ HT.out ?_).mono ?_; (first | assumption | exact Ext.refl _ | exact (Ext.refl _).drew); rintro e w3 ⟨rfl, q0, qG⟩; have f0 := qG.keeps K0.out; have f1 := qG.keeps K1.out)
      | (go_at_call 10; refine (fdayE (w.alloc (.cells #[.int .i64 a, .int .i64 b] 23)) _ _ HT.out ?_).mono ?_; (first | assumption | exact Ext.refl _ | exact (Ext.refl _).drew); rintro e w3 ⟨rfl, q0, qG⟩; have f0 := qG.keeps K0.out; have f1 := qG.keeps K1.out)
      | (go_at_call 11; refine (fdayRE (w.alloc (.cells #[.int .i64 a, .int .i64 b] 23)) _ _ ?_).mono ?_; (first | assumption | exact Ext.refl _ | exact (Ext.refl _).drew); rintro e w3 ⟨rfl, q0, qG⟩; have f0 := qG.keeps K0.out; have f1 := qG.keeps K1.out)
      | (go_at_call 12; refine (fperE (w.alloc (.cells #[.int .i64 a, .int .i64 b] 23)) _ _ _ HT.out ?_).mono ?_; (first | assumption | exact Ext.refl _ | exact (Ext.refl _).drew); rintro e w3 ⟨rfl, q0, qG⟩; have f0 := qG.keeps K0.out; have f1 := qG.keeps K1.out)
      | (go_at_call 13; refine (fperRE (w.alloc (.cells #[.int .i64 a, .int .i64 b] 23)) _ _ _ ?_).mono ?_; (first | assumption | exact Ext.refl _ | exact (Ext.refl _).drew); rintro e w3 ⟨rfl, q0, qG⟩; have f0 := qG.keeps K0.out; have f1 := qG.keeps K1.out))
  go_wp2_with fail
  go_ret
  exact ⟨rfl, hE0.trans qG⟩
end Go.Proofs.YtpdafoinhpjklaaDoor
