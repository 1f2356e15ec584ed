/- The contract of the reference's ParseDay. -/
import Derived.Test.YtpdafoinhpjklaaDoorPrs3
import Derived.Test.YtpdafoinhpjklaaDoorWalk2R
namespace Go.Proofs.YtpdafoinhpjklaaDoor
open Go.ChangeShapes Go.WideShapes Go.ChangeAt Go.RowKit

def prf (w : World) (a b c d f g j k : UInt8) (t : Value) (W0 : World) : Prop :=
  (t = .int .i64 0 ∧ W0 = w.alloc (.cells #[.int .i64 0, .int .i64 0, .int .i64 0, .int .i64 0, .int .i64 0, .int .i64 0, .int .i64 0, .int .i64 0, .int .i64 0, .int .i64 0] 47) ∧ True) ∨
  (t = .int .i64 1 ∧ W0 = w.alloc (.cells #[.int .i64 (Cal.dv a), .int .i64 0, .int .i64 0, .int .i64 0, .int .i64 0, .int .i64 0, .int .i64 0, .int .i64 0, .int .i64 0, .int .i64 0] 47) ∧ True ∧ Cal.isDig a = true) ∨
  (t = .int .i64 2 ∧ W0 = w.alloc (.cells #[.int .i64 (Cal.dv a), .int .i64 (Cal.dv b), .int .i64 0, .int .i64 0, .int .i64 0, .int .i64 0, .int .i64 0, .int .i64 0, .int .i64 0, .int .i64 0] 47) ∧ True ∧ Cal.isDig a = true ∧ Cal.isDig b = true) ∨
  (t = .int .i64 3 ∧ W0 = w.alloc (.cells #[.int .i64 (Cal.dv a), .int .i64 (Cal.dv b), .int .i64 (Cal.dv c), .int .i64 0, .int .i64 0, .int .i64 0, .int .i64 0, .int .i64 0, .int .i64 0, .int .i64 0] 47) ∧ True ∧ Cal.isDig a = true ∧ Cal.isDig b = true ∧ Cal.isDig c = true) ∨
  (t = .int .i64 4 ∧ W0 = w.alloc (.cells #[.int .i64 (Cal.dv a), .int .i64 (Cal.dv b), .int .i64 (Cal.dv c), .int .i64 (Cal.dv d), .int .i64 0, .int .i64 0, .int .i64 0, .int .i64 0, .int .i64 0, .int .i64 0] 47) ∧ True ∧ Cal.isDig a = true ∧ Cal.isDig b = true ∧ Cal.isDig c = true ∧ Cal.isDig d = true) ∨
  (t = .int .i64 5 ∧ W0 = w.alloc (.cells #[.int .i64 (Cal.dv a), .int .i64 (Cal.dv b), .int .i64 (Cal.dv c), .int .i64 (Cal.dv d), .int .i64 0, .int .i64 0, .int .i64 0, .int .i64 0, .int .i64 0, .int .i64 0] 47) ∧ True ∧ Cal.isDig a = true ∧ Cal.isDig b = true ∧ Cal.isDig c = true ∧ Cal.isDig d = true) ∨
  (t = .int .i64 6 ∧ W0 = w.alloc (.cells #[.int .i64 (Cal.dv a), .int .i64 (Cal.dv b), .int .i64 (Cal.dv c), .int .i64 (Cal.dv d), .int .i64 0, .int .i64 (Cal.dv f), .int .i64 0, .int .i64 0, .int .i64 0, .int .i64 0] 47) ∧ True ∧ Cal.isDig a = true ∧ Cal.isDig b = true ∧ Cal.isDig c = true ∧ Cal.isDig d = true ∧ Cal.isDig f = true) ∨
  (t = .int .i64 7 ∧ W0 = w.alloc (.cells #[.int .i64 (Cal.dv a), .int .i64 (Cal.dv b), .int .i64 (Cal.dv c), .int .i64 (Cal.dv d), .int .i64 0, .int .i64 (Cal.dv f), .int .i64 (Cal.dv g), .int .i64 0, .int .i64 0, .int .i64 0] 47) ∧ True ∧ Cal.isDig a = true ∧ Cal.isDig b = true ∧ Cal.isDig c = true ∧ Cal.isDig d = true ∧ Cal.isDig f = true ∧ Cal.isDig g = true) ∨
  (t = .int .i64 8 ∧ W0 = w.alloc (.cells #[.int .i64 (Cal.dv a), .int .i64 (Cal.dv b), .int .i64 (Cal.dv c), .int .i64 (Cal.dv d), .int .i64 0, .int .i64 (Cal.dv f), .int .i64 (Cal.dv g), .int .i64 0, .int .i64 0, .int .i64 0] 47) ∧ True ∧ Cal.isDig a = true ∧ Cal.isDig b = true ∧ Cal.isDig c = true ∧ Cal.isDig d = true ∧ Cal.isDig f = true ∧ Cal.isDig g = true) ∨
  (t = .int .i64 9 ∧ W0 = w.alloc (.cells #[.int .i64 (Cal.dv a), .int .i64 (Cal.dv b), .int .i64 (Cal.dv c), .int .i64 (Cal.dv d), .int .i64 0, .int .i64 (Cal.dv f), .int .i64 (Cal.dv g), .int .i64 0, .int .i64 (Cal.dv j), .int .i64 0] 47) ∧ True ∧ Cal.isDig a = true ∧ Cal.isDig b = true ∧ Cal.isDig c = true ∧ Cal.isDig d = true ∧ Cal.isDig f = true ∧ Cal.isDig g = true ∧ Cal.isDig j = true) ∨
  (t = .int .i64 10 ∧ W0 = w.alloc (.cells #[.int .i64 (Cal.dv a), .int .i64 (Cal.dv b), .int .i64 (Cal.dv c), .int .i64 (Cal.dv d), .int .i64 0, .int .i64 (Cal.dv f), .int .i64 (Cal.dv g), .int .i64 0, .int .i64 (Cal.dv j), .int .i64 (Cal.dv k)] 47) ∧ True ∧ Cal.isDig a = true ∧ Cal.isDig b = true ∧ Cal.isDig c = true ∧ Cal.isDig d = true ∧ Cal.isDig f = true ∧ Cal.isDig g = true ∧ Cal.isDig j = true ∧ Cal.isDig k = true)
theorem ret_ii {a b c d : Int} (h : a = c) (k : b = d) : Ending.returned (.tuple #[.int .i64 a, .int .i64 b]) = .returned (.tuple #[.int .i64 c, .int .i64 d]) := by rw [h, k]
theorem dig_iff (c : UInt8) : Cal.isDig c = true ↔ (48 : Int) ≤ (c.toNat : Int) ∧ (c.toNat : Int) ≤ 57 := by
  unfold Cal.isDig; rw [decide_eq_true_eq]; omega
theorem form_no_at {l : List UInt8} (n : Nat) (hn : n < 10) (h4 : n ≠ 4) (h7 : n ≠ 7) (h : ¬ Cal.isDig (l.getD n 0) = true) : Cal.form l = false :=
  form_bad n hn (by unfold Cal.okAt; rw [if_neg (by omega)]; simpa using h)
theorem pd_dash {l : List UInt8} (h4 : l.length = 10) (hb : Cal.form l = false) : Cal.pdV l = 0 ∧ Cal.pdE l = 5 := pd_bad hb (by rintro rfl; exact absurd h4 (by decide))
theorem fd_ref_b (y m d : Int) (w : World) (b : Bool) (h : Cal.fdB y m d = b) :
    Calls Tryd.prog 27 #[.int .i64 y, .int .i64 m, .int .i64 d] w fun e w' => e = .returned (.tuple #[.int .i64 (Cal.fdV y m d), .bool b]) ∧ Grown w w' := by
  have := fd_ref y m d w; rwa [h] at this
set_option maxHeartbeats 4000000 in
theorem pday_ref_ten (a b c d f g j k : UInt8) (w : World) : Calls Tryd.prog 15 #[sv [a, b, c, d, 45, f, g, 45, j, k]] w fun e' w' => e' = .returned (.tuple #[.int .i64 (Cal.pdV [a, b, c, d, 45, f, g, 45, j, k]), .int .i64 (Cal.pdE [a, b, c, d, 45, f, g, 45, j, k])]) ∧ Ext w w' := by
  have i0 : ∀ h, ({ data := #[a, b, c, d, 45, f, g, 45, j, k] } : ByteArray)[0]'h = a := fun _ => rfl
  have i1 : ∀ h, ({ data := #[a, b, c, d, 45, f, g, 45, j, k] } : ByteArray)[1]'h = b := fun _ => rfl
  have i2 : ∀ h, ({ data := #[a, b, c, d, 45, f, g, 45, j, k] } : ByteArray)[2]'h = c := fun _ => rfl
  have i3 : ∀ h, ({ data := #[a, b, c, d, 45, f, g, 45, j, k] } : ByteArray)[3]'h = d := fun _ => rfl
  have i4 : ∀ h, ({ data := #[a, b, c, d, 45, f, g, 45, j, k] } : ByteArray)[4]'h = 45 := fun _ => rfl
  have i5 : ∀ h, ({ data := #[a, b, c, d, 45, f, g, 45, j, k] } : ByteArray)[5]'h = f := fun _ => rfl
  have i6 : ∀ h, ({ data := #[a, b, c, d, 45, f, g, 45, j, k] } : ByteArray)[6]'h = g := fun _ => rfl
  have i7 : ∀ h, ({ data := #[a, b, c, d, 45, f, g, 45, j, k] } : ByteArray)[7]'h = 45 := fun _ => rfl
  have i8 : ∀ h, ({ data := #[a, b, c, d, 45, f, g, 45, j, k] } : ByteArray)[8]'h = j := fun _ => rfl
  have i9 : ∀ h, ({ data := #[a, b, c, d, 45, f, g, 45, j, k] } : ByteArray)[9]'h = k := fun _ => rfl
  go_enter Tryd.func15, Tryd.ntmps15
  go_wp2_with fail
  go_loopw [5] (prf w a b c d f g j k) (fun t _ => 10 - (intOf t).toNat)
  case atStart => exact Or.inl ⟨rfl, rfl, trivial⟩
  case round =>
    rcases hrel with ⟨rfl, rfl, h⟩ | ⟨rfl, rfl, h⟩ | ⟨rfl, rfl, h⟩ | ⟨rfl, rfl, h⟩ | ⟨rfl, rfl, h⟩ | ⟨rfl, rfl, h⟩ | ⟨rfl, rfl, h⟩ | ⟨rfl, rfl, h⟩ | ⟨rfl, rfl, h⟩ | ⟨rfl, rfl, h⟩ | ⟨rfl, rfl, h⟩
    · by_cases hx : Cal.isDig a = true
      · obtain _ := h
        have HK := Lib.hid (show True ∧ Cal.isDig a = true from ⟨trivial, hx⟩)
        obtain ⟨x0, x1⟩ := (dig_iff a).1 hx
        have xe := dvm hx
        clear hx 
        go_wp2_with fail
        go_roundw
        case rel => exact Or.inr (Or.inl ⟨rfl, rfl, HK.out⟩)
        case measure => decide
      · have HP := Lib.hid (pd_dash rfl (form_no_at (l := [a, b, c, d, 45, f, g, 45, j, k]) 0 (by omega) (by omega) (by omega) hx))
        rw [dig_iff] at hx
        clear h
        by_cases x0 : (48 : Int) ≤ (a.toNat : Int)
        · have x1 : (57 : Int) < (a.toNat : Int) := by omega
          clear hx
          go_wp2_with fail
          go_ret2
          exact ⟨ret_ii HP.out.1.symm HP.out.2.symm, (Ext.refl _).alloc _ _⟩
        · clear hx
          go_wp2_with fail
          go_ret2
          exact ⟨ret_ii HP.out.1.symm HP.out.2.symm, (Ext.refl _).alloc _ _⟩
    · by_cases hx : Cal.isDig b = true
      · obtain ⟨_, h0⟩ := h
        have HK := Lib.hid (show True ∧ Cal.isDig a = true ∧ Cal.isDig b = true from ⟨trivial, h0, hx⟩)
        obtain ⟨x0, x1⟩ := (dig_iff b).1 hx
        have xe := dvm hx
        clear hx h0
        go_wp2_with fail
        go_roundw
        case rel => exact Or.inr (Or.inr (Or.inl ⟨rfl, rfl, HK.out⟩))
        case measure => decide
      · have HP := Lib.hid (pd_dash rfl (form_no_at (l := [a, b, c, d, 45, f, g, 45, j, k]) 1 (by omega) (by omega) (by omega) hx))
        rw [dig_iff] at hx
        clear h
        by_cases x0 : (48 : Int) ≤ (b.toNat : Int)
        · have x1 : (57 : Int) < (b.toNat : Int) := by omega
          clear hx
          go_wp2_with fail
          go_ret2
          exact ⟨ret_ii HP.out.1.symm HP.out.2.symm, (Ext.refl _).alloc _ _⟩
        · clear hx
          go_wp2_with fail
          go_ret2
          exact ⟨ret_ii HP.out.1.symm HP.out.2.symm, (Ext.refl _).alloc _ _⟩
    · by_cases hx : Cal.isDig c = true
      · obtain ⟨_, h0, h1⟩ := h
        have HK := Lib.hid (show True ∧ Cal.isDig a = true ∧ Cal.isDig b = true ∧ Cal.isDig c = true from ⟨trivial, h0, h1, hx⟩)
        obtain ⟨x0, x1⟩ := (dig_iff c).1 hx
        have xe := dvm hx
        clear hx h0 h1
        go_wp2_with fail
        go_roundw
        case rel => exact Or.inr (Or.inr (Or.inr (Or.inl ⟨rfl, rfl, HK.out⟩)))
        case measure => decide
      · have HP := Lib.hid (pd_dash rfl (form_no_at (l := [a, b, c, d, 45, f, g, 45, j, k]) 2 (by omega) (by omega) (by omega) hx))
        rw [dig_iff] at hx
        clear h
        by_cases x0 : (48 : Int) ≤ (c.toNat : Int)
        · have x1 : (57 : Int) < (c.toNat : Int) := by omega
          clear hx
          go_wp2_with fail
          go_ret2
          exact ⟨ret_ii HP.out.1.symm HP.out.2.symm, (Ext.refl _).alloc _ _⟩
        · clear hx
          go_wp2_with fail
          go_ret2
          exact ⟨ret_ii HP.out.1.symm HP.out.2.symm, (Ext.refl _).alloc _ _⟩
    · by_cases hx : Cal.isDig d = true
      · obtain ⟨_, h0, h1, h2⟩ := h
        have HK := Lib.hid (show True ∧ Cal.isDig a = true ∧ Cal.isDig b = true ∧ Cal.isDig c = true ∧ Cal.isDig d = true from ⟨trivial, h0, h1, h2, hx⟩)
        obtain ⟨x0, x1⟩ := (dig_iff d).1 hx
        have xe := dvm hx
        clear hx h0 h1 h2
        go_wp2_with fail
        go_roundw
        case rel => exact Or.inr (Or.inr (Or.inr (Or.inr (Or.inl ⟨rfl, rfl, HK.out⟩))))
        case measure => decide
      · have HP := Lib.hid (pd_dash rfl (form_no_at (l := [a, b, c, d, 45, f, g, 45, j, k]) 3 (by omega) (by omega) (by omega) hx))
        rw [dig_iff] at hx
        clear h
        by_cases x0 : (48 : Int) ≤ (d.toNat : Int)
        · have x1 : (57 : Int) < (d.toNat : Int) := by omega
          clear hx
          go_wp2_with fail
          go_ret2
          exact ⟨ret_ii HP.out.1.symm HP.out.2.symm, (Ext.refl _).alloc _ _⟩
        · clear hx
          go_wp2_with fail
          go_ret2
          exact ⟨ret_ii HP.out.1.symm HP.out.2.symm, (Ext.refl _).alloc _ _⟩
    · have HK := Lib.hid (show True ∧ Cal.isDig a = true ∧ Cal.isDig b = true ∧ Cal.isDig c = true ∧ Cal.isDig d = true from h)
      clear h
      go_wp2_with fail
      go_roundw
      case rel => exact Or.inr (Or.inr (Or.inr (Or.inr (Or.inr (Or.inl ⟨rfl, rfl, HK.out⟩)))))
      case measure => decide
    · by_cases hx : Cal.isDig f = true
      · obtain ⟨_, h0, h1, h2, h3⟩ := h
        have HK := Lib.hid (show True ∧ Cal.isDig a = true ∧ Cal.isDig b = true ∧ Cal.isDig c = true ∧ Cal.isDig d = true ∧ Cal.isDig f = true from ⟨trivial, h0, h1, h2, h3, hx⟩)
        obtain ⟨x0, x1⟩ := (dig_iff f).1 hx
        have xe := dvm hx
        clear hx h0 h1 h2 h3
        go_wp2_with fail
        go_roundw
        case rel => exact Or.inr (Or.inr (Or.inr (Or.inr (Or.inr (Or.inr (Or.inl ⟨rfl, rfl, HK.out⟩))))))
        case measure => decide
      · have HP := Lib.hid (pd_dash rfl (form_no_at (l := [a, b, c, d, 45, f, g, 45, j, k]) 5 (by omega) (by omega) (by omega) hx))
        rw [dig_iff] at hx
        clear h
        by_cases x0 : (48 : Int) ≤ (f.toNat : Int)
        · have x1 : (57 : Int) < (f.toNat : Int) := by omega
          clear hx
          go_wp2_with fail
          go_ret2
          exact ⟨ret_ii HP.out.1.symm HP.out.2.symm, (Ext.refl _).alloc _ _⟩
        · clear hx
          go_wp2_with fail
          go_ret2
          exact ⟨ret_ii HP.out.1.symm HP.out.2.symm, (Ext.refl _).alloc _ _⟩
    · by_cases hx : Cal.isDig g = true
      · obtain ⟨_, h0, h1, h2, h3, h5⟩ := h
        have HK := Lib.hid (show True ∧ Cal.isDig a = true ∧ Cal.isDig b = true ∧ Cal.isDig c = true ∧ Cal.isDig d = true ∧ Cal.isDig f = true ∧ Cal.isDig g = true from ⟨trivial, h0, h1, h2, h3, h5, hx⟩)
        obtain ⟨x0, x1⟩ := (dig_iff g).1 hx
        have xe := dvm hx
        clear hx h0 h1 h2 h3 h5
        go_wp2_with fail
        go_roundw
        case rel => exact Or.inr (Or.inr (Or.inr (Or.inr (Or.inr (Or.inr (Or.inr (Or.inl ⟨rfl, rfl, HK.out⟩)))))))
        case measure => decide
      · have HP := Lib.hid (pd_dash rfl (form_no_at (l := [a, b, c, d, 45, f, g, 45, j, k]) 6 (by omega) (by omega) (by omega) hx))
        rw [dig_iff] at hx
        clear h
        by_cases x0 : (48 : Int) ≤ (g.toNat : Int)
        · have x1 : (57 : Int) < (g.toNat : Int) := by omega
          clear hx
          go_wp2_with fail
          go_ret2
          exact ⟨ret_ii HP.out.1.symm HP.out.2.symm, (Ext.refl _).alloc _ _⟩
        · clear hx
          go_wp2_with fail
          go_ret2
          exact ⟨ret_ii HP.out.1.symm HP.out.2.symm, (Ext.refl _).alloc _ _⟩
    · have HK := Lib.hid (show True ∧ Cal.isDig a = true ∧ Cal.isDig b = true ∧ Cal.isDig c = true ∧ Cal.isDig d = true ∧ Cal.isDig f = true ∧ Cal.isDig g = true from h)
      clear h
      go_wp2_with fail
      go_roundw
      case rel => exact Or.inr (Or.inr (Or.inr (Or.inr (Or.inr (Or.inr (Or.inr (Or.inr (Or.inl ⟨rfl, rfl, HK.out⟩))))))))
      case measure => decide
    · by_cases hx : Cal.isDig j = true
      · obtain ⟨_, h0, h1, h2, h3, h5, h6⟩ := h
        have HK := Lib.hid (show True ∧ Cal.isDig a = true ∧ Cal.isDig b = true ∧ Cal.isDig c = true ∧ Cal.isDig d = true ∧ Cal.isDig f = true ∧ Cal.isDig g = true ∧ Cal.isDig j = true from ⟨trivial, h0, h1, h2, h3, h5, h6, hx⟩)
        obtain ⟨x0, x1⟩ := (dig_iff j).1 hx
        have xe := dvm hx
        clear hx h0 h1 h2 h3 h5 h6
        go_wp2_with fail
        go_roundw
        case rel => exact Or.inr (Or.inr (Or.inr (Or.inr (Or.inr (Or.inr (Or.inr (Or.inr (Or.inr (Or.inl ⟨rfl, rfl, HK.out⟩)))))))))
        case measure => decide
      · have HP := Lib.hid (pd_dash rfl (form_no_at (l := [a, b, c, d, 45, f, g, 45, j, k]) 8 (by omega) (by omega) (by omega) hx))
        rw [dig_iff] at hx
        clear h
        by_cases x0 : (48 : Int) ≤ (j.toNat : Int)
        · have x1 : (57 : Int) < (j.toNat : Int) := by omega
          clear hx
          go_wp2_with fail
          go_ret2
          exact ⟨ret_ii HP.out.1.symm HP.out.2.symm, (Ext.refl _).alloc _ _⟩
        · clear hx
          go_wp2_with fail
          go_ret2
          exact ⟨ret_ii HP.out.1.symm HP.out.2.symm, (Ext.refl _).alloc _ _⟩
    · by_cases hx : Cal.isDig k = true
      · obtain ⟨_, h0, h1, h2, h3, h5, h6, h8⟩ := h
        have HK := Lib.hid (show True ∧ Cal.isDig a = true ∧ Cal.isDig b = true ∧ Cal.isDig c = true ∧ Cal.isDig d = true ∧ Cal.isDig f = true ∧ Cal.isDig g = true ∧ Cal.isDig j = true ∧ Cal.isDig k = true from ⟨trivial, h0, h1, h2, h3, h5, h6, h8, hx⟩)
        obtain ⟨x0, x1⟩ := (dig_iff k).1 hx
        have xe := dvm hx
        clear hx h0 h1 h2 h3 h5 h6 h8
        go_wp2_with fail
        go_roundw
        case rel => exact Or.inr (Or.inr (Or.inr (Or.inr (Or.inr (Or.inr (Or.inr (Or.inr (Or.inr (Or.inr (⟨rfl, rfl, HK.out⟩))))))))))
        case measure => decide
      · have HP := Lib.hid (pd_dash rfl (form_no_at (l := [a, b, c, d, 45, f, g, 45, j, k]) 9 (by omega) (by omega) (by omega) hx))
        rw [dig_iff] at hx
        clear h
        by_cases x0 : (48 : Int) ≤ (k.toNat : Int)
        · have x1 : (57 : Int) < (k.toNat : Int) := by omega
          clear hx
          go_wp2_with fail
          go_ret2
          exact ⟨ret_ii HP.out.1.symm HP.out.2.symm, (Ext.refl _).alloc _ _⟩
        · clear hx
          go_wp2_with fail
          go_ret2
          exact ⟨ret_ii HP.out.1.symm HP.out.2.symm, (Ext.refl _).alloc _ _⟩
    · obtain ⟨_, h0, h1, h2, h3, h5, h6, h8, h9⟩ := h
      have hf : Cal.form [a, b, c, d, 45, f, g, 45, j, k] = true := (Cal.form_iff _).2 ⟨rfl, fun q hq => by
        have : q = 0 ∨ q = 1 ∨ q = 2 ∨ q = 3 ∨ q = 4 ∨ q = 5 ∨ q = 6 ∨ q = 7 ∨ q = 8 ∨ q = 9 := by omega
        rcases this with rfl | rfl | rfl | rfl | rfl | rfl | rfl | rfl | rfl | rfl <;> simp [Cal.okAt, *]⟩
      obtain ⟨p1, p2, p3⟩ := pd_form hf
      have b0 := Cal.isDig_bd h0; have b1 := Cal.isDig_bd h1; have b2 := Cal.isDig_bd h2; have b3 := Cal.isDig_bd h3
      have b5 := Cal.isDig_bd h5; have b6 := Cal.isDig_bd h6; have b8 := Cal.isDig_bd h8; have b9 := Cal.isDig_bd h9
      obtain ⟨l0, g0⟩ := b0; obtain ⟨l1, g1⟩ := b1; obtain ⟨l2, g2⟩ := b2; obtain ⟨l3, g3⟩ := b3
      obtain ⟨l5, g5⟩ := b5; obtain ⟨l6, g6⟩ := b6; obtain ⟨l8, g8⟩ := b8; obtain ⟨l9, g9⟩ := b9
      cases hb : Cal.fdB (Cal.yOf [a, b, c, d, 45, f, g, 45, j, k]) (Cal.mOf [a, b, c, d, 45, f, g, 45, j, k]) (Cal.dOf [a, b, c, d, 45, f, g, 45, j, k])
      · have HP := Lib.hid (show Cal.pdV [a, b, c, d, 45, f, g, 45, j, k] = 0 ∧ Cal.pdE [a, b, c, d, 45, f, g, 45, j, k] = 10 from ⟨p1.trans (Cal.fdV_no hb), p3 hb⟩)
        have HB := Lib.hid (show Cal.fdB (1000 * Cal.dv a + 100 * Cal.dv b + 10 * Cal.dv c + Cal.dv d) (10 * Cal.dv f + Cal.dv g) (10 * Cal.dv j + Cal.dv k) = false from hb)
        clear hb p1 p2 p3 hf h0 h1 h2 h3 h5 h6 h8 h9
        go_wp2_with fail
        refine (fd_ref_b _ _ _ _ _ HB.out).mono ?_; rintro e' w1 ⟨rfl, hg⟩
        go_wp2_with fail
        go_ret2
        exact ⟨ret_ii HP.out.1.symm HP.out.2.symm, ((Ext.refl _).alloc _ _).trans (ext_of_grown hg)⟩
      · have HP := Lib.hid (show Cal.pdV [a, b, c, d, 45, f, g, 45, j, k] = Cal.fdV (1000 * Cal.dv a + 100 * Cal.dv b + 10 * Cal.dv c + Cal.dv d) (10 * Cal.dv f + Cal.dv g) (10 * Cal.dv j + Cal.dv k) ∧ Cal.pdE [a, b, c, d, 45, f, g, 45, j, k] = 0 from ⟨p1, p2 hb⟩)
        have HB := Lib.hid (show Cal.fdB (1000 * Cal.dv a + 100 * Cal.dv b + 10 * Cal.dv c + Cal.dv d) (10 * Cal.dv f + Cal.dv g) (10 * Cal.dv j + Cal.dv k) = true from hb)
        clear hb p1 p2 p3 hf h0 h1 h2 h3 h5 h6 h8 h9
        go_wp2_with fail
        refine (fd_ref_b _ _ _ _ _ HB.out).mono ?_; rintro e' w1 ⟨rfl, hg⟩
        go_wp2_with fail
        go_ret2
        exact ⟨ret_ii HP.out.1.symm HP.out.2.symm, ((Ext.refl _).alloc _ _).trans (ext_of_grown hg)⟩
end Go.Proofs.YtpdafoinhpjklaaDoor
