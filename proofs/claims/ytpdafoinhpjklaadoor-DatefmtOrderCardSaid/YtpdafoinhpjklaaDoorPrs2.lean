/- Contracts of the program's number and ParseDay. -/
import Derived.Test.YtpdafoinhpjklaaDoorPrs1
import Derived.Test.YtpdafoinhpjklaaDoorWalk2
import Derived.Deep.QuietTactic
import Derived.BigQuiet
namespace Go.Proofs.YtpdafoinhpjklaaDoor
open Go.ChangeShapes Go.WideShapes Go.ChangeAt Go.RowKit

theorem dvm {c : UInt8} (h : Cal.isDig c = true) : ((c.toNat : Int) - 48) % 256 = Cal.dv c := by
  have := Cal.isDig_bd h; unfold Cal.dv at *; omega
theorem ivl {a b : Int} (h : a = b) : Value.int .i64 a = .int .i64 b := by rw [h]
def num2 (a b : UInt8) (n i : Value) : Prop :=
  (n = .int .i64 0 ∧ i = .int .i64 0) ∨ (n = .int .i64 (Cal.dv a) ∧ i = .int .i64 1) ∨ (n = .int .i64 (10 * Cal.dv a + Cal.dv b) ∧ i = .int .i64 2)
set_option maxHeartbeats 400000 in
theorem number_two (a b : UInt8) (w : World) (ha : Cal.isDig a = true) (hb : Cal.isDig b = true) :
    Calls Tryd.prog 26 #[sv [a, b]] w fun e w' => e = .returned (.int .i64 (10 * Cal.dv a + Cal.dv b)) ∧ w = w' := by
  obtain ⟨a0, a1⟩ := Cal.isDig_bd ha
  obtain ⟨b0, b1⟩ := Cal.isDig_bd hb
  have HA := Lib.hid (dvm ha)
  have HB := Lib.hid (dvm hb)
  clear ha hb
  go_enter Tryd.func26, Tryd.ntmps26
  go_wp2
  go_loop [3, 7] (num2 a b) (fun _ i => 2 - (intOf i).toNat)
  case atStart => exact Or.inl ⟨rfl, rfl⟩
  case round =>
    rcases hrel with ⟨rfl, rfl⟩ | ⟨rfl, rfl⟩ | ⟨rfl, rfl⟩
    · go_wp2
      go_round
      case rel => exact Or.inr (Or.inl ⟨ivl HA.out, rfl⟩)
      case measure => decide
    · go_wp2
      go_round
      case rel => exact Or.inr (Or.inr ⟨ivl (congrArg (10 * Cal.dv a + ·) HB.out), rfl⟩)
      case measure => decide
    · go_wp2
      go_ret
      exact ⟨rfl, rfl⟩
def num4 (a b c d : UInt8) (n i : Value) : Prop :=
  (n = .int .i64 0 ∧ i = .int .i64 0) ∨ (n = .int .i64 (Cal.dv a) ∧ i = .int .i64 1) ∨ (n = .int .i64 (10 * Cal.dv a + Cal.dv b) ∧ i = .int .i64 2) ∨
  (n = .int .i64 (10 * (10 * Cal.dv a + Cal.dv b) + Cal.dv c) ∧ i = .int .i64 3) ∨ (n = .int .i64 (10 * (10 * (10 * Cal.dv a + Cal.dv b) + Cal.dv c) + Cal.dv d) ∧ i = .int .i64 4)
set_option maxHeartbeats 400000 in
theorem number_four (a b c d : UInt8) (w : World) (ha : Cal.isDig a = true) (hb : Cal.isDig b = true) (hc : Cal.isDig c = true) (hd : Cal.isDig d = true) :
    Calls Tryd.prog 26 #[sv [a, b, c, d]] w fun e w' => e = .returned (.int .i64 (10 * (10 * (10 * Cal.dv a + Cal.dv b) + Cal.dv c) + Cal.dv d)) ∧ w = w' := by
  obtain ⟨a0, a1⟩ := Cal.isDig_bd ha
  obtain ⟨b0, b1⟩ := Cal.isDig_bd hb
  obtain ⟨c0, c1⟩ := Cal.isDig_bd hc
  obtain ⟨d0, d1⟩ := Cal.isDig_bd hd
  have HA := Lib.hid (dvm ha)
  have HB := Lib.hid (dvm hb)
  have HC := Lib.hid (dvm hc)
  have HD := Lib.hid (dvm hd)
  clear ha hb hc hd
  go_enter Tryd.func26, Tryd.ntmps26
  go_wp2
  go_loop [3, 7] (num4 a b c d) (fun _ i => 4 - (intOf i).toNat)
  case atStart => exact Or.inl ⟨rfl, rfl⟩
  case round =>
    rcases hrel with ⟨rfl, rfl⟩ | ⟨rfl, rfl⟩ | ⟨rfl, rfl⟩ | ⟨rfl, rfl⟩ | ⟨rfl, rfl⟩
    · go_wp2
      go_round
      case rel => exact Or.inr (Or.inl ⟨ivl HA.out, rfl⟩)
      case measure => decide
    · go_wp2
      go_round
      case rel => exact Or.inr (Or.inr (Or.inl ⟨ivl (congrArg (10 * Cal.dv a + ·) HB.out), rfl⟩))
      case measure => decide
    · go_wp2
      go_round
      case rel => exact Or.inr (Or.inr (Or.inr (Or.inl ⟨ivl (congrArg (10 * (10 * Cal.dv a + Cal.dv b) + ·) HC.out), rfl⟩)))
      case measure => decide
    · go_wp2
      go_round
      case rel => exact Or.inr (Or.inr (Or.inr (Or.inr ⟨ivl (congrArg (10 * (10 * (10 * Cal.dv a + Cal.dv b) + Cal.dv c) + ·) HD.out), rfl⟩)))
      case measure => decide
    · go_wp2
      go_ret
      exact ⟨rfl, rfl⟩
theorem ext_piece (l : List UInt8) (x y : Nat) : (⟨l.toArray⟩ : ByteArray).extract x y = ⟨((l.drop x).take (y - x)).toArray⟩ := by
  apply ByteArray.ext
  simp
theorem number_y (a b c d e f g i j k : UInt8) (w : World) (h : Cal.form [a, b, c, d, e, f, g, i, j, k] = true) :
    Calls Tryd.prog 26 #[.string (({ data := #[a, b, c, d, e, f, g, i, j, k] } : ByteArray).extract 0 4)] w fun e' w' => e' = .returned (.int .i64 (Cal.yOf [a, b, c, d, e, f, g, i, j, k])) ∧ w = w' := by
  rw [show (({ data := #[a, b, c, d, e, f, g, i, j, k] } : ByteArray).extract 0 4) = ⟨#[a, b, c, d]⟩ from ext_piece [a, b, c, d, e, f, g, i, j, k] 0 4]
  rw [Cal.form_iff] at h
  have h0 := h.2 0 (by omega); have h1 := h.2 1 (by omega); have h2 := h.2 2 (by omega); have h3 := h.2 3 (by omega)
  simp [Cal.okAt] at h0 h1 h2 h3
  have := number_four a b c d w h0 h1 h2 h3
  rw [show Cal.yOf [a, b, c, d, e, f, g, i, j, k] = 10 * (10 * (10 * Cal.dv a + Cal.dv b) + Cal.dv c) + Cal.dv d by simp [Cal.yOf]; omega]
  exact this
theorem number_m (a b c d e f g i j k : UInt8) (w : World) (h : Cal.form [a, b, c, d, e, f, g, i, j, k] = true) :
    Calls Tryd.prog 26 #[.string (({ data := #[a, b, c, d, e, f, g, i, j, k] } : ByteArray).extract 5 7)] w fun e' w' => e' = .returned (.int .i64 (Cal.mOf [a, b, c, d, e, f, g, i, j, k])) ∧ w = w' := by
  rw [show (({ data := #[a, b, c, d, e, f, g, i, j, k] } : ByteArray).extract 5 7) = ⟨#[f, g]⟩ from ext_piece [a, b, c, d, e, f, g, i, j, k] 5 7]
  rw [Cal.form_iff] at h
  have h0 := h.2 5 (by omega); have h1 := h.2 6 (by omega)
  simp [Cal.okAt] at h0 h1
  exact number_two f g w h0 h1
theorem number_d (a b c d e f g i j k : UInt8) (w : World) (h : Cal.form [a, b, c, d, e, f, g, i, j, k] = true) :
    Calls Tryd.prog 26 #[.string (({ data := #[a, b, c, d, e, f, g, i, j, k] } : ByteArray).extract 8 10)] w fun e' w' => e' = .returned (.int .i64 (Cal.dOf [a, b, c, d, e, f, g, i, j, k])) ∧ w = w' := by
  rw [show (({ data := #[a, b, c, d, e, f, g, i, j, k] } : ByteArray).extract 8 10) = ⟨#[j, k]⟩ from ext_piece [a, b, c, d, e, f, g, i, j, k] 8 10]
  rw [Cal.form_iff] at h
  have h0 := h.2 8 (by omega); have h1 := h.2 9 (by omega)
  simp [Cal.okAt] at h0 h1
  exact number_two j k w h0 h1
end Go.Proofs.YtpdafoinhpjklaaDoor
