/- Contracts of the program's padded, and of what it calls of the library; strings as lists of bytes. -/
import Derived.Test.YtpdafoinhpjklaaDoorExt
import Derived.Test.YtpdafoinhpjklaaDoorStr
import Derived.Test.YtpdafoinhpjklaaDoorShelf
import Derived.Lib.LaidTab
import Derived.Lib.AppendIntMem
namespace Go.Proofs.YtpdafoinhpjklaaDoor
open Go.ChangeShapes Go.WideShapes Go.ChangeAt Go.RowKit Go.Sort

/-- a string as a value -/
abbrev sv (l : List UInt8) : Value := .string ⟨l.toArray⟩
theorem app_mk (a b : List UInt8) : (⟨a.toArray⟩ : ByteArray) ++ ⟨b.toArray⟩ = ⟨(a ++ b).toArray⟩ := by
  apply ByteArray.ext; simp
/-- the table of powers of ten is as it was laid -/
def PT (w : World) : Prop := Lib.TabIs Tryd.prog w "internal/strconv.uint64pow10" .u64 Lib.pow10Tab
theorem PT.ext {w w' : World} (h : PT w) (g : Ext w w') : PT w' := by
  unfold PT Lib.TabIs World.var? at *
  rw [Option.bind_eq_some_iff] at *
  obtain ⟨b, hb, h⟩ := h
  refine ⟨b, hb, ?_⟩
  cases ho : w.heap[b]? with
  | none => rw [ho] at h; cases h
  | some o =>
    rw [ho] at h
    cases o with
    | cells cs t fr => rw [g.block ho]; exact h
    | _ => cases h

theorem itoa_one (n : Int) (w : World) (h0 : 0 ≤ n) (h1 : n < 10) :
    Calls Tryd.prog 35 #[.int .i64 n] w fun e w' => e = .returned (sv [Cal.dch n]) ∧ w = w' := by
  have := Tryd.strconv_Itoa_small n.toNat (by omega) w
  rw [Cal.dec_one n h0 h1, Int.toNat_of_nonneg h0] at this
  exact this.mono fun e w' ⟨a, b⟩ => ⟨a, b.symm⟩
theorem itoa_two (n : Int) (w : World) (h0 : 10 ≤ n) (h1 : n < 100) :
    Calls Tryd.prog 35 #[.int .i64 n] w fun e w' => e = .returned (sv (Cal.d2 n)) ∧ w = w' := by
  have := Tryd.strconv_Itoa_small n.toNat (by omega) w
  rw [Cal.dec_two n h0 h1, Int.toNat_of_nonneg (by omega)] at this
  exact this.mono fun e w' ⟨a, b⟩ => ⟨a, b.symm⟩
theorem itoa_four (n : Int) (w : World) (hT : PT w) (h0 : 1000 ≤ n) (h1 : n < 10000) :
    Calls Tryd.prog 35 #[.int .i64 n] w fun e w' => e = .returned (sv (Cal.d4 n)) ∧ Ext w w' := by
  have := Tryd.strconv_Itoa n (by omega) (by omega) w hT
  rw [show Lib.itoa n = Cal.d4 n by unfold Lib.itoa; rw [if_neg (by omega), Cal.dec_four n h0 h1]] at this
  exact this.mono fun e w' ⟨a, k, os, b⟩ => ⟨a, b ▸ ext_of_below (Lib.below_grow _ _ (Nat.le_refl _) _ _)⟩

set_option maxRecDepth 100000 in
set_option maxHeartbeats 400000 in
theorem rep_0 (w : World) : Calls Tryd.prog 36 #[sv [48], .int .i64 0] w fun e w' => e = .returned (sv []) ∧ w = w' := by
  go_enter Tryd.func36, Tryd.ntmps36
  go_wp2_with fail
  go_ret
  exact ⟨rfl, rfl⟩
set_option maxRecDepth 100000 in
set_option maxHeartbeats 400000 in
theorem rep_1 (w : World) : Calls Tryd.prog 36 #[sv [48], .int .i64 1] w fun e w' => e = .returned (sv [48]) ∧ w = w' := by
  go_enter Tryd.func36, Tryd.ntmps36
  go_wp2_with fail
  go_ret
  exact ⟨rfl, rfl⟩

theorem ret_sv {a b : List UInt8} (h : a = b) : Ending.returned (sv a) = .returned (sv b) := by rw [h]
set_option maxHeartbeats 400000 in
theorem pad_two_lo (n : Int) (w : World) (h0 : 0 ≤ n) (h1 : n < 10) :
    Calls Tryd.prog 21 #[.int .i64 n, .int .i64 2] w fun e w' => e = .returned (sv ([48] ++ [Cal.dch n])) ∧ w = w' := by
  go_enter Tryd.func21, Tryd.ntmps21
  go_wp2_with fail
  refine (itoa_one _ _ h0 h1).mono ?_; rintro e w' ⟨rfl, rfl⟩
  go_wp2_with fail
  refine (rep_1 _).mono ?_; rintro e w' ⟨rfl, rfl⟩
  go_wp2_with fail
  go_ret
  exact ⟨rfl, rfl⟩
set_option maxHeartbeats 400000 in
theorem pad_two_hi (n : Int) (w : World) (h0 : 10 ≤ n) (h1 : n < 100) :
    Calls Tryd.prog 21 #[.int .i64 n, .int .i64 2] w fun e w' => e = .returned (sv (Cal.d2 n)) ∧ w = w' := by
  go_enter Tryd.func21, Tryd.ntmps21
  go_wp2_with fail
  refine (itoa_two _ _ h0 h1).mono ?_; rintro e w' ⟨rfl, rfl⟩
  unfold Cal.d2
  go_wp2_with fail
  refine (rep_0 _).mono ?_; rintro e w' ⟨rfl, rfl⟩
  go_wp2_with fail
  go_ret
  exact ⟨rfl, rfl⟩
theorem pad_two (n : Int) (w : World) (h0 : 0 ≤ n) (h1 : n < 100) :
    Calls Tryd.prog 21 #[.int .i64 n, .int .i64 2] w fun e w' => e = .returned (sv (Cal.d2 n)) ∧ w = w' := by
  by_cases h : n < 10
  · have := pad_two_lo n w h0 h
    rwa [← Cal.dec_one n h0 h, Cal.pad_two n h0 h] at this
  · exact pad_two_hi n w (by omega) h1
set_option maxHeartbeats 400000 in
theorem pad_four (n : Int) (w : World) (hT : PT w) (h0 : 1000 ≤ n) (h1 : n < 10000) :
    Calls Tryd.prog 21 #[.int .i64 n, .int .i64 4] w fun e w' => e = .returned (sv (Cal.d4 n)) ∧ Ext w w' := by
  go_enter Tryd.func21, Tryd.ntmps21
  go_wp2_with fail
  refine (itoa_four _ _ hT h0 h1).mono ?_; rintro e w1 ⟨rfl, hg⟩
  unfold Cal.d4
  go_wp2_with fail
  refine (rep_0 _).mono ?_; rintro e w' ⟨rfl, rfl⟩
  go_wp2_with fail
  go_ret
  exact ⟨rfl, hg⟩
end Go.Proofs.YtpdafoinhpjklaaDoor
